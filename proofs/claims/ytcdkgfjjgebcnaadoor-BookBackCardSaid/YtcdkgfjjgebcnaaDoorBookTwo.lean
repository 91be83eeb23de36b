/- Books, and two books side by side. -/
import Derived.Test.YtcdkgfjjgebcnaaDoorBookC
namespace Go.Proofs.YtcdkgfjjgebcnaaDoor
open Go Go.RowKit
set_option linter.unusedVariables false

/-- what posting comes to: the place told, the error's number, the books behind it -/
def PostRel (s : Bk) (ls : List Ln) (n : Int) (k : Nat) (s' : Bk) : Prop :=
  k = s.mayN ls ∧ ((k = 0 ∧ n = (s.L.length : Int) ∧ s' = s.post ls) ∨ (k ≠ 0 ∧ n = 0 ∧ s' = s))
def RevRel (s : Bk) (m : Int) (n : Int) (k : Nat) (s' : Bk) : Prop :=
  k = s.revN m ∧ ((k = 0 ∧ n = (s.L.length : Int) ∧ s' = s.rev m) ∨ (k ≠ 0 ∧ n = 0 ∧ s' = s))

structure BTwo (B : (Nat → Prop) → Addr → Bk → World → Prop) (p q : Addr) (s t : Bk) (w W : World) : Prop where
  at' : ∃ F G, B F p s W ∧ B G q t W ∧ (∀ k, F k → w.heap.size ≤ k) ∧ (∀ k, G k → w.heap.size ≤ k) ∧ ∀ k, F k → ¬ G k
  below : Below w.heap.size w W

section
variable {B : (Nat → Prop) → Addr → Bk → World → Prop} {p q : Addr} {s t : Bk} {w W W' : World}

theorem PostTo.rel {ls : List Ln} {e : Ending} {w' : World} (h : PostTo B p s w ls e w') : ∃ (pl : Int) (k : Nat) (s' : Bk), e = .returned (.tuple #[.int .i64 pl, errv (k : Int)]) ∧ BHold B p s' w w' ∧ PostRel s ls pl k s' := by
  rcases h with ⟨g, rfl, hd⟩ | ⟨g, rfl, hd⟩
  · exact ⟨_, 0, _, rfl, hd, g.symm, Or.inl ⟨rfl, rfl, rfl⟩⟩
  · exact ⟨_, _, _, rfl, hd, rfl, Or.inr ⟨g, rfl, rfl⟩⟩
theorem RevTo.rel {m : Int} {e : Ending} {w' : World} (h : RevTo B p s w m e w') : ∃ (pl : Int) (k : Nat) (s' : Bk), e = .returned (.tuple #[.int .i64 pl, errv (k : Int)]) ∧ BHold B p s' w w' ∧ RevRel s m pl k s' := by
  rcases h with ⟨g, rfl, hd⟩ | ⟨g, rfl, hd⟩
  · exact ⟨_, 0, _, rfl, hd, g.symm, Or.inl ⟨rfl, rfl, rfl⟩⟩
  · exact ⟨_, _, _, rfl, hd, rfl, Or.inr ⟨g, rfl, rfl⟩⟩

theorem BTwo.up (C : BookC B) (h : BTwo B p q s t w W) (hb : Below W.heap.size W W') : BTwo B p q s t w W' := by
  obtain ⟨⟨F, G, h1, h2, h3, h4, h5⟩, h6⟩ := h
  exact ⟨⟨F, G, C.up h1 hb, C.up h2 hb, h3, h4, h5⟩, h6.trans (hb.mono h6.size)⟩
theorem BTwo.drewN (C : BookC B) (h : BTwo B p q s t w W) (n : Nat) : BTwo B p q s t w (W.drewN n) := h.up C (below_drewN (Below.refl _ _) n)
theorem BTwo.left (h : BTwo B p q s t w W) : BHold B p s w W := by
  obtain ⟨⟨F, G, h1, h2, h3, h4, h5⟩, h6⟩ := h
  exact ⟨⟨F, h1, h3⟩, h6⟩
theorem BTwo.right (h : BTwo B p q s t w W) : BHold B q t w W := by
  obtain ⟨⟨F, G, h1, h2, h3, h4, h5⟩, h6⟩ := h
  exact ⟨⟨G, h2, h4⟩, h6⟩
theorem BTwo.swap (h : BTwo B p q s t w W) : BTwo B q p t s w W := by
  obtain ⟨⟨F, G, h1, h2, h3, h4, h5⟩, h6⟩ := h
  exact ⟨⟨G, F, h2, h1, h4, h3, fun k hg hf => h5 k hf hg⟩, h6⟩
/-- the first has turned -/
theorem BTwo.turn (C : BookC B) {F F' G : Nat → Prop} {s' : Bk} (h2 : B G q t W) (h3 : ∀ k, F k → w.heap.size ≤ k) (h4 : ∀ k, G k → w.heap.size ≤ k) (h5 : ∀ k, F k → ¬ G k) (h6 : Below w.heap.size w W)
    (ho : Only F W W') (hF' : ∀ k, F' k → F k ∨ W.heap.size ≤ k) (hd : B F' p s' W') : BTwo B p q s' t w W' :=
  ⟨⟨F', G, hd, C.keep h2 ho h5 (C.kin hd), fun k hk => (hF' k hk).elim (h3 k) fun h' => Nat.le_trans h6.size h', h4, fun k hk hg => (hF' k hk).elim (fun h => h5 k h hg) fun h' => by have := C.lt h2 k hg; omega⟩, h6.trans (ho.below h6.size h3)⟩
theorem BTwo.postL (C : BookC B) (h : BTwo B p q s t w W) (a : Option Addr) (n c : Nat) (ls : List Ln) (hl : LinesAt w a n ls) (hok : OkL ls) (hc : n ≤ c) (hm : c ≤ maxLen) (hn : n ≤ 1000) :
    Calls Tryd.prog 22 #[.pointer (some p), .slice a n c] W fun e w' => ∃ (pl : Int) (k : Nat) (s' : Bk), e = .returned (.tuple #[.int .i64 pl, errv (k : Int)]) ∧ BTwo B p q s' t w w' ∧ PostRel s ls pl k s' := by
  have hold := h.left.lines hl
  obtain ⟨⟨F, G, h1, h2, h3, h4, h5⟩, h6⟩ := h
  refine (C.post a n c ls h1 hold hok (fun x e => (hl.lt x e).elim Or.inl fun hlt => Or.inr fun hf => by have := h3 _ hf; omega) hc hm hn).mono ?_
  rintro e w' ⟨ho, F', hF', ⟨g, rfl, hd⟩ | ⟨g, rfl, hd⟩⟩
  · exact ⟨_, 0, _, rfl, BTwo.turn C h2 h3 h4 h5 h6 ho hF' hd, g.symm, Or.inl ⟨rfl, rfl, rfl⟩⟩
  · exact ⟨_, _, _, rfl, BTwo.turn C h2 h3 h4 h5 h6 ho hF' hd, rfl, Or.inr ⟨g, rfl, rfl⟩⟩
theorem BTwo.postR (C : BookC B) (h : BTwo B p q s t w W) (a : Option Addr) (n c : Nat) (ls : List Ln) (hl : LinesAt w a n ls) (hok : OkL ls) (hc : n ≤ c) (hm : c ≤ maxLen) (hn : n ≤ 1000) :
    Calls Tryd.prog 22 #[.pointer (some q), .slice a n c] W fun e w' => ∃ (pl : Int) (k : Nat) (t' : Bk), e = .returned (.tuple #[.int .i64 pl, errv (k : Int)]) ∧ BTwo B p q s t' w w' ∧ PostRel t ls pl k t' := by
  refine (h.swap.postL C a n c ls hl hok hc hm hn).mono ?_
  rintro e w' ⟨n', k, t', rfl, h1, h2⟩
  exact ⟨n', k, t', rfl, h1.swap, h2⟩
theorem BTwo.reverseL (C : BookC B) (h : BTwo B p q s t w W) (m : Int) (hm : in64 m) :
    Calls Tryd.prog 21 #[.pointer (some p), .int .i64 m] W fun e w' => ∃ (pl : Int) (k : Nat) (s' : Bk), e = .returned (.tuple #[.int .i64 pl, errv (k : Int)]) ∧ BTwo B p q s' t w w' ∧ RevRel s m pl k s' := by
  obtain ⟨⟨F, G, h1, h2, h3, h4, h5⟩, h6⟩ := h
  refine (C.reverse m h1 hm).mono ?_
  rintro e w' ⟨ho, F', hF', ⟨g, rfl, hd⟩ | ⟨g, rfl, hd⟩⟩
  · exact ⟨_, 0, _, rfl, BTwo.turn C h2 h3 h4 h5 h6 ho hF' hd, g.symm, Or.inl ⟨rfl, rfl, rfl⟩⟩
  · exact ⟨_, _, _, rfl, BTwo.turn C h2 h3 h4 h5 h6 ho hF' hd, rfl, Or.inr ⟨g, rfl, rfl⟩⟩
theorem BTwo.reverseR (C : BookC B) (h : BTwo B p q s t w W) (m : Int) (hm : in64 m) :
    Calls Tryd.prog 21 #[.pointer (some q), .int .i64 m] W fun e w' => ∃ (pl : Int) (k : Nat) (t' : Bk), e = .returned (.tuple #[.int .i64 pl, errv (k : Int)]) ∧ BTwo B p q s t' w w' ∧ RevRel t m pl k t' := by
  refine (h.swap.reverseL C m hm).mono ?_
  rintro e w' ⟨n', k, t', rfl, h1, h2⟩
  exact ⟨n', k, t', rfl, h1.swap, h2⟩
theorem BTwo.trialL (C : BookC B) (h : BTwo B p q s t w W) : Calls Tryd.prog 18 #[.pointer (some p)] W fun e w' => ∃ v l, e = .returned v ∧ OwnLn W.heap.size v l w' ∧ Trial s.bal l ∧ BTwo B p q s t w w' ∧ Below W.heap.size W w' := by
  refine (h.left.trial C).mono ?_
  rintro e w' ⟨v, l, rfl, h1, h2, -, hb⟩
  exact ⟨v, l, rfl, h1, h2, h.up C hb, hb⟩
theorem BTwo.trialR (C : BookC B) (h : BTwo B p q s t w W) : Calls Tryd.prog 18 #[.pointer (some q)] W fun e w' => ∃ v l, e = .returned v ∧ OwnLn W.heap.size v l w' ∧ Trial t.bal l ∧ BTwo B p q s t w w' ∧ Below W.heap.size W w' := by
  refine (h.swap.trialL C).mono ?_
  rintro e w' ⟨v, l, rfl, h1, h2, h3, hb⟩
  exact ⟨v, l, rfl, h1, h2, h3.swap, hb⟩
theorem BTwo.lenL (C : BookC B) (h : BTwo B p q s t w W) : Calls Tryd.prog 15 #[.pointer (some p)] W fun e w' => e = .returned (.int .i64 (s.L.length : Int)) ∧ BTwo B p q s t w w' ∧ Below W.heap.size W w' := by
  refine (h.left.len C).mono ?_
  rintro e w' ⟨rfl, -, hb⟩
  exact ⟨rfl, h.up C hb, hb⟩
theorem BTwo.entryL (C : BookC B) (h : BTwo B p q s t w W) (n : Int) (hn : in64 n) : Calls Tryd.prog 13 #[.pointer (some p), .int .i64 n] W fun e w' => BTwo B p q s t w w' ∧ Below W.heap.size W w' ∧
      ((0 ≤ n ∧ n < (s.L.length : Int) ∧ ∃ v, e = .returned (.tuple #[v, errv 0]) ∧ OwnLn W.heap.size v (s.L.getD n.toNat []) w') ∨
        ((n < 0 ∨ (s.L.length : Int) ≤ n) ∧ ∃ a c, e = .returned (.tuple #[.slice a 0 c, errv 4]))) := by
  refine (h.left.entry C n hn).mono ?_
  rintro e w' ⟨-, hb, h5⟩
  exact ⟨h.up C hb, hb, h5⟩
/-- what was told since then stays -/
def Stays (W1 W w' : World) : Prop := ∀ v l, OwnLn W1.heap.size v l W → OwnLn W1.heap.size v l w'
theorem Stays.of {F : Nat → Prop} {W1 w' : World} (hF : ∀ k, F k → k < W1.heap.size) (ho : Only F W w') : Stays W1 W w' := fun v l h => h.only ho fun k h1 _ hf => by have := hF k hf; omega
theorem BTwo.postLK (C : BookC B) {W1 : World} (h : BTwo B p q s t w W1) (hb : Below W1.heap.size W1 W) (a : Option Addr) (n c : Nat) (ls : List Ln) (hl : LinesAt w a n ls) (hok : OkL ls) (hc : n ≤ c) (hm : c ≤ maxLen) (hn : n ≤ 1000) :
    Calls Tryd.prog 22 #[.pointer (some p), .slice a n c] W fun e w' => ∃ (pl : Int) (k : Nat) (s' : Bk), e = .returned (.tuple #[.int .i64 pl, errv (k : Int)]) ∧ BTwo B p q s' t w w' ∧ PostRel s ls pl k s' ∧ Stays W1 W w' := by
  have hold := (h.up C hb).left.lines hl
  obtain ⟨⟨F, G, h1, h2, h3, h4, h5⟩, h6⟩ := h
  have h6' := h6.trans (hb.mono h6.size)
  refine (C.post a n c ls (C.up h1 hb) hold hok (fun x e => (hl.lt x e).elim Or.inl fun hlt => Or.inr fun hf => by have := h3 _ hf; omega) hc hm hn).mono ?_
  rintro e w' ⟨ho, F', hF', ⟨g, rfl, hd⟩ | ⟨g, rfl, hd⟩⟩
  · exact ⟨_, 0, _, rfl, BTwo.turn C (C.up h2 hb) h3 h4 h5 h6' ho hF' hd, ⟨g.symm, Or.inl ⟨rfl, rfl, rfl⟩⟩, Stays.of (C.lt h1) ho⟩
  · exact ⟨_, _, _, rfl, BTwo.turn C (C.up h2 hb) h3 h4 h5 h6' ho hF' hd, ⟨rfl, Or.inr ⟨g, rfl, rfl⟩⟩, Stays.of (C.lt h1) ho⟩
theorem BTwo.postRK (C : BookC B) {W1 : World} (h : BTwo B p q s t w W1) (hb : Below W1.heap.size W1 W) (a : Option Addr) (n c : Nat) (ls : List Ln) (hl : LinesAt w a n ls) (hok : OkL ls) (hc : n ≤ c) (hm : c ≤ maxLen) (hn : n ≤ 1000) :
    Calls Tryd.prog 22 #[.pointer (some q), .slice a n c] W fun e w' => ∃ (pl : Int) (k : Nat) (t' : Bk), e = .returned (.tuple #[.int .i64 pl, errv (k : Int)]) ∧ BTwo B p q s t' w w' ∧ PostRel t ls pl k t' ∧ Stays W1 W w' := by
  refine (h.swap.postLK C hb a n c ls hl hok hc hm hn).mono ?_
  rintro e w' ⟨n', k, t', rfl, h1, h2⟩
  exact ⟨n', k, t', rfl, h1.swap, h2⟩
theorem BTwo.reverseLK (C : BookC B) {W1 : World} (h : BTwo B p q s t w W1) (hb : Below W1.heap.size W1 W) (m : Int) (hm : in64 m) :
    Calls Tryd.prog 21 #[.pointer (some p), .int .i64 m] W fun e w' => ∃ (pl : Int) (k : Nat) (s' : Bk), e = .returned (.tuple #[.int .i64 pl, errv (k : Int)]) ∧ BTwo B p q s' t w w' ∧ RevRel s m pl k s' ∧ Stays W1 W w' := by
  obtain ⟨⟨F, G, h1, h2, h3, h4, h5⟩, h6⟩ := h
  have h6' := h6.trans (hb.mono h6.size)
  refine (C.reverse m (C.up h1 hb) hm).mono ?_
  rintro e w' ⟨ho, F', hF', ⟨g, rfl, hd⟩ | ⟨g, rfl, hd⟩⟩
  · exact ⟨_, 0, _, rfl, BTwo.turn C (C.up h2 hb) h3 h4 h5 h6' ho hF' hd, ⟨g.symm, Or.inl ⟨rfl, rfl, rfl⟩⟩, Stays.of (C.lt h1) ho⟩
  · exact ⟨_, _, _, rfl, BTwo.turn C (C.up h2 hb) h3 h4 h5 h6' ho hF' hd, ⟨rfl, Or.inr ⟨g, rfl, rfl⟩⟩, Stays.of (C.lt h1) ho⟩
theorem BTwo.reverseRK (C : BookC B) {W1 : World} (h : BTwo B p q s t w W1) (hb : Below W1.heap.size W1 W) (m : Int) (hm : in64 m) :
    Calls Tryd.prog 21 #[.pointer (some q), .int .i64 m] W fun e w' => ∃ (pl : Int) (k : Nat) (t' : Bk), e = .returned (.tuple #[.int .i64 pl, errv (k : Int)]) ∧ BTwo B p q s t' w w' ∧ RevRel t m pl k t' ∧ Stays W1 W w' := by
  refine (h.swap.reverseLK C hb m hm).mono ?_
  rintro e w' ⟨n', k, t', rfl, h1, h2⟩
  exact ⟨n', k, t', rfl, h1.swap, h2⟩
theorem BHold.postK (C : BookC B) {W1 : World} (h : BHold B p s w W1) (hb : Below W1.heap.size W1 W) (a : Option Addr) (n c : Nat) (ls : List Ln) (hl : LinesAt w a n ls) (hok : OkL ls) (hc : n ≤ c) (hm : c ≤ maxLen) (hn : n ≤ 1000) :
    Calls Tryd.prog 22 #[.pointer (some p), .slice a n c] W fun e w' => ∃ (pl : Int) (k : Nat) (s' : Bk), e = .returned (.tuple #[.int .i64 pl, errv (k : Int)]) ∧ BHold B p s' w w' ∧ PostRel s ls pl k s' ∧ Stays W1 W w' := by
  have hold := (h.up C hb).lines hl
  obtain ⟨⟨F, h1, h3⟩, h6⟩ := h
  have h6' := h6.trans (hb.mono h6.size)
  refine (C.post a n c ls (C.up h1 hb) hold hok (fun x e => (hl.lt x e).elim Or.inl fun hlt => Or.inr fun hf => by have := h3 _ hf; omega) hc hm hn).mono ?_
  rintro e w' ⟨ho, F', hF', ⟨g, rfl, hd⟩ | ⟨g, rfl, hd⟩⟩
  · exact ⟨_, 0, _, rfl, ⟨⟨F', hd, fun k hk => (hF' k hk).elim (h3 k) fun h' => Nat.le_trans h6'.size h'⟩, h6'.trans (ho.below h6'.size h3)⟩, ⟨g.symm, Or.inl ⟨rfl, rfl, rfl⟩⟩, Stays.of (C.lt h1) ho⟩
  · exact ⟨_, _, _, rfl, ⟨⟨F', hd, fun k hk => (hF' k hk).elim (h3 k) fun h' => Nat.le_trans h6'.size h'⟩, h6'.trans (ho.below h6'.size h3)⟩, ⟨rfl, Or.inr ⟨g, rfl, rfl⟩⟩, Stays.of (C.lt h1) ho⟩
theorem BHold.reverseK (C : BookC B) {W1 : World} (h : BHold B p s w W1) (hb : Below W1.heap.size W1 W) (m : Int) (hm : in64 m) :
    Calls Tryd.prog 21 #[.pointer (some p), .int .i64 m] W fun e w' => ∃ (pl : Int) (k : Nat) (s' : Bk), e = .returned (.tuple #[.int .i64 pl, errv (k : Int)]) ∧ BHold B p s' w w' ∧ RevRel s m pl k s' ∧ Stays W1 W w' := by
  obtain ⟨⟨F, h1, h3⟩, h6⟩ := h
  have h6' := h6.trans (hb.mono h6.size)
  refine (C.reverse m (C.up h1 hb) hm).mono ?_
  rintro e w' ⟨ho, F', hF', ⟨g, rfl, hd⟩ | ⟨g, rfl, hd⟩⟩
  · exact ⟨_, 0, _, rfl, ⟨⟨F', hd, fun k hk => (hF' k hk).elim (h3 k) fun h' => Nat.le_trans h6'.size h'⟩, h6'.trans (ho.below h6'.size h3)⟩, ⟨g.symm, Or.inl ⟨rfl, rfl, rfl⟩⟩, Stays.of (C.lt h1) ho⟩
  · exact ⟨_, _, _, rfl, ⟨⟨F', hd, fun k hk => (hF' k hk).elim (h3 k) fun h' => Nat.le_trans h6'.size h'⟩, h6'.trans (ho.below h6'.size h3)⟩, ⟨rfl, Or.inr ⟨g, rfl, rfl⟩⟩, Stays.of (C.lt h1) ho⟩
/-- a second one, new -/
theorem BHold.more (C : BookC B) (h : BHold B p s w W) : Calls Tryd.prog 11 #[] W fun e w' => ∃ q, e = .returned (.pointer (some q)) ∧ BTwo B p q s Bk.zero w w' := by
  obtain ⟨⟨F, h1, h2⟩, h3⟩ := h
  refine (C.new W (C.kin h1)).mono ?_
  rintro e w' ⟨hb, q, G, rfl, h4, h5⟩
  exact ⟨q, rfl, ⟨F, G, C.up h1 hb, h4, h2, fun k hk => Nat.le_trans h3.size (h5 k hk), fun k hf hg => by have := C.lt h1 k hf; have := h5 k hg; omega⟩, h3.trans (hb.mono h3.size)⟩
theorem BHold.clone (C : BookC B) (h : BHold B p s w W) : Calls Tryd.prog 25 #[.pointer (some p)] W fun e w' => ∃ q, e = .returned (.pointer (some q)) ∧ BTwo B p q s s w w' ∧ Below W.heap.size W w' := by
  obtain ⟨⟨F, h1, h2⟩, h3⟩ := h
  refine (C.clone h1).mono ?_
  rintro e w' ⟨hb, q, G, rfl, h4, h5⟩
  exact ⟨q, rfl, ⟨⟨F, G, C.up h1 hb, h4, h2, fun k hk => Nat.le_trans h3.size (h5 k hk), fun k hf hg => by have := C.lt h1 k hf; have := h5 k hg; omega⟩, h3.trans (hb.mono h3.size)⟩, hb⟩
end
end Go.Proofs.YtcdkgfjjgebcnaaDoor
