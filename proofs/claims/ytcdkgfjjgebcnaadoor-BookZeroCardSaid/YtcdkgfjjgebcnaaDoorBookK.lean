/- Books, alone or two of them, beside blocks of the law's own. -/
import Derived.Test.YtcdkgfjjgebcnaaDoorBookTwo
namespace Go.Proofs.YtcdkgfjjgebcnaaDoor
open Go Go.RowKit
set_option linter.unusedVariables false

/-- a row of lines in the law's own blocks -/
def InKL (K : Nat → Prop) (v : Value) (ls : List Ln) (w : World) : Prop :=
  ∃ a c, v = .slice a ls.length c ∧ (ls.length ≤ c ∧ ls.length ≤ 9223372036854775807) ∧ LinesAt w a ls.length ls ∧ ∀ x, a = some x → ls.length = 0 ∨ (K x.block ∧ ∀ i, i < 3 * ls.length → w.frozen? ⟨x.block, x.off + i, none⟩ = false)

theorem InKL.up {K : Nat → Prop} {v : Value} {ls : List Ln} {w w' : World} (h : InKL K v ls w) (hb : Below w.heap.size w w') : InKL K v ls w' := by
  obtain ⟨a, c, h1, h2, h3, h4⟩ := h
  refine ⟨a, c, h1, h2, h3.up hb, fun x hx => ?_⟩
  rcases h4 x hx with h5 | ⟨h5, h6⟩
  · exact Or.inl h5
  · rcases h3.lt x hx with h7 | h7
    · exact Or.inl h7
    · exact Or.inr ⟨h5, fun i hi => by rw [hb.frozen (p := ⟨x.block, x.off + i, none⟩) h7]; exact h6 i hi⟩
theorem InKL.only {X K : Nat → Prop} {v : Value} {ls : List Ln} {w w' : World} (h : InKL K v ls w) (ho : Only X w w') (hX : ∀ k, K k → ¬ X k) : InKL K v ls w' := by
  obtain ⟨a, c, h1, h2, h3, h4⟩ := h
  refine ⟨a, c, h1, h2, h3.only ho fun x hx => (h4 x hx).elim Or.inl fun h5 => Or.inr (hX _ h5.1), fun x hx => ?_⟩
  rcases h4 x hx with h5 | ⟨h5, h6⟩
  · exact Or.inl h5
  · rcases h3.lt x hx with h7 | h7
    · exact Or.inl h7
    · exact Or.inr ⟨h5, fun i hi => (World.frozen?_of_block (a := ⟨x.block, x.off + i, none⟩) (ho.block _ h7 (hX _ h5))).trans (h6 i hi)⟩
theorem InKL.mono {K K' : Nat → Prop} {v : Value} {ls : List Ln} {w : World} (h : InKL K v ls w) (hK : ∀ k, K k → K' k) : InKL K' v ls w := by
  obtain ⟨a, c, h1, h2, h3, h4⟩ := h
  exact ⟨a, c, h1, h2, h3, fun x hx => (h4 x hx).elim Or.inl fun h5 => Or.inr ⟨hK _ h5.1, h5.2⟩⟩
theorem OwnLn.inK {base : Nat} {v : Value} {ls : List Ln} {w : World} (h : OwnLn base v ls w) : InKL (fun k => base ≤ k ∧ k < w.heap.size) v ls w := by
  obtain ⟨a, c, h1, h2, h3, h4⟩ := h
  refine ⟨a, c, h1, h2, h3, fun x hx => ?_⟩
  rcases h4 x hx with h5 | ⟨h5, h6⟩
  · exact Or.inl h5
  · rcases h3.lt x hx with h7 | h7
    · exact Or.inl h7
    · exact Or.inr ⟨⟨h5, h7⟩, h6⟩

/-- books beside blocks of the law's own, all new to w -/
structure BS (B : (Nat → Prop) → Addr → Bk → World → Prop) (p : Addr) (s : Bk) (K : Nat → Prop) (w W : World) : Prop where
  at' : ∃ F, B F p s W ∧ (∀ k, F k → w.heap.size ≤ k) ∧ ∀ k, F k → ¬ K k
  below : Below w.heap.size w W
  klt : ∀ k, K k → w.heap.size ≤ k ∧ k < W.heap.size
structure BT (B : (Nat → Prop) → Addr → Bk → World → Prop) (p q : Addr) (s t : Bk) (K : Nat → Prop) (w W : World) : Prop where
  at' : ∃ F G, B F p s W ∧ B G q t W ∧ (∀ k, F k → w.heap.size ≤ k) ∧ (∀ k, G k → w.heap.size ≤ k) ∧ (∀ k, F k → ¬ G k) ∧ (∀ k, F k → ¬ K k) ∧ ∀ k, G k → ¬ K k
  below : Below w.heap.size w W
  klt : ∀ k, K k → w.heap.size ≤ k ∧ k < W.heap.size

def NoK : Nat → Prop := fun _ => False
def PlusK (K : Nat → Prop) (W1 W : World) : Nat → Prop := fun k => K k ∨ (W1.heap.size ≤ k ∧ k < W.heap.size)

section
variable {B : (Nat → Prop) → Addr → Bk → World → Prop} {p q : Addr} {s t : Bk} {K : Nat → Prop} {w W W' : World}

theorem BHold.bs (h : BHold B p s w W) : BS B p s NoK w W := by
  obtain ⟨⟨F, h1, h2⟩, h3⟩ := h
  exact ⟨⟨F, h1, h2, fun _ _ hk => hk.elim⟩, h3, fun _ hk => hk.elim⟩
theorem BS.hold (h : BS B p s K w W) : BHold B p s w W := by
  obtain ⟨⟨F, h1, h2, -⟩, h3, -⟩ := h
  exact ⟨⟨F, h1, h2⟩, h3⟩
theorem BS.up (C : BookC B) (h : BS B p s K w W) (hb : Below W.heap.size W W') : BS B p s K w W' := by
  obtain ⟨⟨F, h1, h2, h3⟩, h4, h5⟩ := h
  exact ⟨⟨F, C.up h1 hb, h2, h3⟩, h4.trans (hb.mono h4.size), fun k hk => ⟨(h5 k hk).1, Nat.lt_of_lt_of_le (h5 k hk).2 hb.size⟩⟩
/-- what was made since is the law's own, too -/
theorem BS.more (C : BookC B) (h : BS B p s K w W) (hb : Below W.heap.size W W') : BS B p s (PlusK K W W') w W' := by
  obtain ⟨⟨F, h1, h2, h3⟩, h4, h5⟩ := h
  refine ⟨⟨F, C.up h1 hb, h2, fun k hf hk => ?_⟩, h4.trans (hb.mono h4.size), fun k hk => ?_⟩
  · rcases hk with hk | hk
    · exact h3 k hf hk
    · have := C.lt h1 k hf; omega
  · rcases hk with hk | hk
    · exact ⟨(h5 k hk).1, Nat.lt_of_lt_of_le (h5 k hk).2 hb.size⟩
    · exact ⟨Nat.le_trans h4.size hk.1, hk.2⟩
/-- a block of the law's own is written -/
theorem BS.set (C : BookC B) (T : Kin w) (h : BS B p s K w W) {x : Addr} (hx : K x.block) (v : Value) : BS B p s K w (W.setCell x v) := by
  obtain ⟨⟨F, h1, h2, h3⟩, h4, h5⟩ := h
  have hk := h5 _ hx
  have ho : Only (fun k => k = x.block) W (W.setCell x v) := (Only.refl (fun k => k = x.block) W).setCell (p := x) rfl v
  exact ⟨⟨F, C.keep h1 ho (fun k hk hf => h3 k hf (by rw [hk]; exact hx)) (T.of (h4.setCell hk.1 v)), h2, h3⟩, h4.setCell hk.1 v, fun k hk' => ⟨(h5 k hk').1, by simpa using (h5 k hk').2⟩⟩
theorem BS.lines {a : Option Addr} {n : Nat} {ls : List Ln} (h : BS B p s K w W) (hl : LinesAt w a n ls) : LinesAt W a n ls := h.hold.lines hl

theorem BS.turn {F F' : Nat → Prop} {s' : Bk} (h2 : ∀ k, F k → w.heap.size ≤ k) (h3 : ∀ k, F k → ¬ K k) (h4 : Below w.heap.size w W) (h5 : ∀ k, K k → w.heap.size ≤ k ∧ k < W.heap.size)
    (ho : Only F W W') (hF' : ∀ k, F' k → F k ∨ W.heap.size ≤ k) (hd : B F' p s' W') : BS B p s' K w W' ∧ ∀ v l, InKL K v l W → InKL K v l W' :=
  ⟨⟨⟨F', hd, fun k hk => (hF' k hk).elim (h2 k) fun h' => Nat.le_trans h4.size h', fun k hk hk' => (hF' k hk).elim (fun h => h3 k h hk') fun h' => by have := (h5 k hk').2; omega⟩, h4.trans (ho.below h4.size h2), fun k hk => ⟨(h5 k hk).1, Nat.lt_of_lt_of_le (h5 k hk).2 ho.size⟩⟩,
    fun v l h => h.only ho fun k hk hf => h3 k hf hk⟩

/-- a row that Post may be given: one that was there at w, or one of the law's own -/
def Given (K : Nat → Prop) (w W : World) (a : Option Addr) (n : Nat) (ls : List Ln) : Prop := LinesAt W a n ls ∧ ∀ x, a = some x → n = 0 ∨ x.block < w.heap.size ∨ K x.block
theorem Given.old {a : Option Addr} {n : Nat} {ls : List Ln} (hb : Below w.heap.size w W) (hl : LinesAt w a n ls) : Given K w W a n ls :=
  ⟨hl.of_block fun x hx => (hl.lt x hx).elim Or.inl fun hlt => Or.inr (hb.block _ hlt), fun x hx => (hl.lt x hx).elim Or.inl fun h => Or.inr (Or.inl h)⟩

theorem BS.post (C : BookC B) (h : BS B p s K w W) (a : Option Addr) (n c : Nat) (ls : List Ln) (hl : Given K w W a n ls) (hok : OkL ls) (hc : n ≤ c) (hm : c ≤ maxLen) (hn : n ≤ 1000) :
    Calls Tryd.prog 22 #[.pointer (some p), .slice a n c] W fun e w' => ∃ (pl : Int) (k : Nat) (s' : Bk), e = .returned (.tuple #[.int .i64 pl, errv (k : Int)]) ∧ BS B p s' K w w' ∧ PostRel s ls pl k s' ∧ ∀ v l, InKL K v l W → InKL K v l w' := by
  obtain ⟨⟨F, h1, h2, h3⟩, h4, h5⟩ := h
  refine (C.post a n c ls h1 hl.1 hok (fun x e => (hl.2 x e).elim Or.inl fun h => Or.inr fun hf => h.elim (fun h => by have := h2 _ hf; omega) (h3 _ hf)) hc hm hn).mono ?_
  rintro e w' ⟨ho, F', hF', ⟨g, rfl, hd⟩ | ⟨g, rfl, hd⟩⟩
  · obtain ⟨q1, q2⟩ := BS.turn h2 h3 h4 h5 ho hF' hd
    exact ⟨_, 0, _, rfl, q1, ⟨g.symm, Or.inl ⟨rfl, rfl, rfl⟩⟩, q2⟩
  · obtain ⟨q1, q2⟩ := BS.turn h2 h3 h4 h5 ho hF' hd
    exact ⟨_, _, _, rfl, q1, ⟨rfl, Or.inr ⟨g, rfl, rfl⟩⟩, q2⟩
theorem BS.reverse (C : BookC B) (h : BS B p s K w W) (m : Int) (hm : in64 m) :
    Calls Tryd.prog 21 #[.pointer (some p), .int .i64 m] W fun e w' => ∃ (pl : Int) (k : Nat) (s' : Bk), e = .returned (.tuple #[.int .i64 pl, errv (k : Int)]) ∧ BS B p s' K w w' ∧ RevRel s m pl k s' ∧ ∀ v l, InKL K v l W → InKL K v l w' := by
  obtain ⟨⟨F, h1, h2, h3⟩, h4, h5⟩ := h
  refine (C.reverse m h1 hm).mono ?_
  rintro e w' ⟨ho, F', hF', ⟨g, rfl, hd⟩ | ⟨g, rfl, hd⟩⟩
  · obtain ⟨q1, q2⟩ := BS.turn h2 h3 h4 h5 ho hF' hd
    exact ⟨_, 0, _, rfl, q1, ⟨g.symm, Or.inl ⟨rfl, rfl, rfl⟩⟩, q2⟩
  · obtain ⟨q1, q2⟩ := BS.turn h2 h3 h4 h5 ho hF' hd
    exact ⟨_, _, _, rfl, q1, ⟨rfl, Or.inr ⟨g, rfl, rfl⟩⟩, q2⟩

theorem BT.swap (h : BT B p q s t K w W) : BT B q p t s K w W := by
  obtain ⟨⟨F, G, h1, h2, h3, h4, h5, h6, h7⟩, h8, h9⟩ := h
  exact ⟨⟨G, F, h2, h1, h4, h3, fun k hg hf => h5 k hf hg, h7, h6⟩, h8, h9⟩
theorem BT.left (h : BT B p q s t K w W) : BS B p s K w W := by
  obtain ⟨⟨F, G, h1, h2, h3, h4, h5, h6, h7⟩, h8, h9⟩ := h
  exact ⟨⟨F, h1, h3, h6⟩, h8, h9⟩
theorem BT.up (C : BookC B) (h : BT B p q s t K w W) (hb : Below W.heap.size W W') : BT B p q s t K w W' := by
  obtain ⟨⟨F, G, h1, h2, h3, h4, h5, h6, h7⟩, h8, h9⟩ := h
  exact ⟨⟨F, G, C.up h1 hb, C.up h2 hb, h3, h4, h5, h6, h7⟩, h8.trans (hb.mono h8.size), fun k hk => ⟨(h9 k hk).1, Nat.lt_of_lt_of_le (h9 k hk).2 hb.size⟩⟩
theorem BT.more (C : BookC B) (h : BT B p q s t K w W) (hb : Below W.heap.size W W') : BT B p q s t (PlusK K W W') w W' := by
  obtain ⟨⟨F, G, h1, h2, h3, h4, h5, h6, h7⟩, h8, h9⟩ := h
  refine ⟨⟨F, G, C.up h1 hb, C.up h2 hb, h3, h4, h5, fun k hf hk => ?_, fun k hf hk => ?_⟩, h8.trans (hb.mono h8.size), fun k hk => ?_⟩
  · rcases hk with hk | hk
    · exact h6 k hf hk
    · have := C.lt h1 k hf; omega
  · rcases hk with hk | hk
    · exact h7 k hf hk
    · have := C.lt h2 k hf; omega
  · rcases hk with hk | hk
    · exact ⟨(h9 k hk).1, Nat.lt_of_lt_of_le (h9 k hk).2 hb.size⟩
    · exact ⟨Nat.le_trans h8.size hk.1, hk.2⟩
theorem BT.turn (C : BookC B) {F F' G : Nat → Prop} {s' : Bk} (h2 : B G q t W) (h3 : ∀ k, F k → w.heap.size ≤ k) (h4 : ∀ k, G k → w.heap.size ≤ k) (h5 : ∀ k, F k → ¬ G k) (h6 : ∀ k, F k → ¬ K k) (h7 : ∀ k, G k → ¬ K k)
    (h8 : Below w.heap.size w W) (h9 : ∀ k, K k → w.heap.size ≤ k ∧ k < W.heap.size) (ho : Only F W W') (hF' : ∀ k, F' k → F k ∨ W.heap.size ≤ k) (hd : B F' p s' W') : BT B p q s' t K w W' ∧ ∀ v l, InKL K v l W → InKL K v l W' := by
  obtain ⟨q1, q2⟩ := BS.turn (B := B) h3 h6 h8 h9 ho hF' hd
  refine ⟨⟨⟨F', G, hd, C.keep h2 ho h5 (C.kin hd), fun k hk => (hF' k hk).elim (h3 k) fun h' => Nat.le_trans h8.size h', h4, fun k hk hg => (hF' k hk).elim (fun h => h5 k h hg) fun h' => by have := C.lt h2 k hg; omega,
    fun k hk hk' => (hF' k hk).elim (fun h => h6 k h hk') fun h' => by have := (h9 k hk').2; omega, h7⟩, q1.below, q1.klt⟩, q2⟩
theorem BT.postL (C : BookC B) (h : BT B p q s t K w W) (a : Option Addr) (n c : Nat) (ls : List Ln) (hl : Given K w W a n ls) (hok : OkL ls) (hc : n ≤ c) (hm : c ≤ maxLen) (hn : n ≤ 1000) :
    Calls Tryd.prog 22 #[.pointer (some p), .slice a n c] W fun e w' => ∃ (pl : Int) (k : Nat) (s' : Bk), e = .returned (.tuple #[.int .i64 pl, errv (k : Int)]) ∧ BT B p q s' t K w w' ∧ PostRel s ls pl k s' ∧ ∀ v l, InKL K v l W → InKL K v l w' := by
  obtain ⟨⟨F, G, h1, h2, h3, h4, h5, h6, h7⟩, h8, h9⟩ := h
  refine (C.post a n c ls h1 hl.1 hok (fun x e => (hl.2 x e).elim Or.inl fun h => Or.inr fun hf => h.elim (fun h => by have := h3 _ hf; omega) (h6 _ hf)) hc hm hn).mono ?_
  rintro e w' ⟨ho, F', hF', ⟨g, rfl, hd⟩ | ⟨g, rfl, hd⟩⟩
  · obtain ⟨q1, q2⟩ := BT.turn C h2 h3 h4 h5 h6 h7 h8 h9 ho hF' hd
    exact ⟨_, 0, _, rfl, q1, ⟨g.symm, Or.inl ⟨rfl, rfl, rfl⟩⟩, q2⟩
  · obtain ⟨q1, q2⟩ := BT.turn C h2 h3 h4 h5 h6 h7 h8 h9 ho hF' hd
    exact ⟨_, _, _, rfl, q1, ⟨rfl, Or.inr ⟨g, rfl, rfl⟩⟩, q2⟩
theorem BT.reverseL (C : BookC B) (h : BT B p q s t K w W) (m : Int) (hm : in64 m) :
    Calls Tryd.prog 21 #[.pointer (some p), .int .i64 m] W fun e w' => ∃ (pl : Int) (k : Nat) (s' : Bk), e = .returned (.tuple #[.int .i64 pl, errv (k : Int)]) ∧ BT B p q s' t K w w' ∧ RevRel s m pl k s' ∧ ∀ v l, InKL K v l W → InKL K v l w' := by
  obtain ⟨⟨F, G, h1, h2, h3, h4, h5, h6, h7⟩, h8, h9⟩ := h
  refine (C.reverse m h1 hm).mono ?_
  rintro e w' ⟨ho, F', hF', ⟨g, rfl, hd⟩ | ⟨g, rfl, hd⟩⟩
  · obtain ⟨q1, q2⟩ := BT.turn C h2 h3 h4 h5 h6 h7 h8 h9 ho hF' hd
    exact ⟨_, 0, _, rfl, q1, ⟨g.symm, Or.inl ⟨rfl, rfl, rfl⟩⟩, q2⟩
  · obtain ⟨q1, q2⟩ := BT.turn C h2 h3 h4 h5 h6 h7 h8 h9 ho hF' hd
    exact ⟨_, _, _, rfl, q1, ⟨rfl, Or.inr ⟨g, rfl, rfl⟩⟩, q2⟩
theorem BT.postR (C : BookC B) (h : BT B p q s t K w W) (a : Option Addr) (n c : Nat) (ls : List Ln) (hl : Given K w W a n ls) (hok : OkL ls) (hc : n ≤ c) (hm : c ≤ maxLen) (hn : n ≤ 1000) :
    Calls Tryd.prog 22 #[.pointer (some q), .slice a n c] W fun e w' => ∃ (pl : Int) (k : Nat) (t' : Bk), e = .returned (.tuple #[.int .i64 pl, errv (k : Int)]) ∧ BT B p q s t' K w w' ∧ PostRel t ls pl k t' ∧ ∀ v l, InKL K v l W → InKL K v l w' := by
  refine (h.swap.postL C a n c ls hl hok hc hm hn).mono ?_
  rintro e w' ⟨n', k, t', rfl, h1, h2⟩
  exact ⟨n', k, t', rfl, h1.swap, h2⟩
theorem BT.reverseR (C : BookC B) (h : BT B p q s t K w W) (m : Int) (hm : in64 m) :
    Calls Tryd.prog 21 #[.pointer (some q), .int .i64 m] W fun e w' => ∃ (pl : Int) (k : Nat) (t' : Bk), e = .returned (.tuple #[.int .i64 pl, errv (k : Int)]) ∧ BT B p q s t' K w w' ∧ RevRel t m pl k t' ∧ ∀ v l, InKL K v l W → InKL K v l w' := by
  refine (h.swap.reverseL C m hm).mono ?_
  rintro e w' ⟨n', k, t', rfl, h1, h2⟩
  exact ⟨n', k, t', rfl, h1.swap, h2⟩
theorem OwnLn.plus {v : Value} {l : List Ln} (h : OwnLn W.heap.size v l W') : InKL (PlusK K W W') v l W' := h.inK.mono fun k hk => Or.inr hk
theorem InKL.plus {v : Value} {l : List Ln} (h : InKL K v l W) (hb : Below W.heap.size W W') : InKL (PlusK K W W') v l W' := (h.up hb).mono fun k hk => Or.inl hk
theorem BS.trial (C : BookC B) (h : BS B p s K w W) : Calls Tryd.prog 18 #[.pointer (some p)] W fun e w' => ∃ v l, e = .returned v ∧ InKL (PlusK K W w') v l w' ∧ Trial s.bal l ∧ BS B p s (PlusK K W w') w w' ∧ Below W.heap.size W w' := by
  refine (h.hold.trial C).mono ?_
  rintro e w' ⟨v, l, rfl, h1, h2, -, hb⟩
  exact ⟨v, l, rfl, h1.plus, h2, h.more C hb, hb⟩
theorem BT.trialL (C : BookC B) (h : BT B p q s t K w W) : Calls Tryd.prog 18 #[.pointer (some p)] W fun e w' => ∃ v l, e = .returned v ∧ InKL (PlusK K W w') v l w' ∧ Trial s.bal l ∧ BT B p q s t (PlusK K W w') w w' ∧ Below W.heap.size W w' := by
  refine (h.left.hold.trial C).mono ?_
  rintro e w' ⟨v, l, rfl, h1, h2, -, hb⟩
  exact ⟨v, l, rfl, h1.plus, h2, h.more C hb, hb⟩
theorem BS.entry (C : BookC B) (h : BS B p s K w W) (n : Int) (hn : in64 n) (h0 : 0 ≤ n) (h1 : n < (s.L.length : Int)) : Calls Tryd.prog 13 #[.pointer (some p), .int .i64 n] W fun e w' => ∃ v, e = .returned (.tuple #[v, errv 0]) ∧ InKL (PlusK K W w') v (s.L.getD n.toNat []) w' ∧ BS B p s (PlusK K W w') w w' ∧ Below W.heap.size W w' := by
  refine (h.hold.entry C n hn).mono ?_
  rintro e w' ⟨-, hb, ⟨-, -, v, rfl, h2⟩ | ⟨h2, -⟩⟩
  · exact ⟨v, rfl, h2.plus, h.more C hb, hb⟩
  · omega
theorem BT.entryL (C : BookC B) (h : BT B p q s t K w W) (n : Int) (hn : in64 n) (h0 : 0 ≤ n) (h1 : n < (s.L.length : Int)) : Calls Tryd.prog 13 #[.pointer (some p), .int .i64 n] W fun e w' => ∃ v, e = .returned (.tuple #[v, errv 0]) ∧ InKL (PlusK K W w') v (s.L.getD n.toNat []) w' ∧ BT B p q s t (PlusK K W w') w w' ∧ Below W.heap.size W w' := by
  refine (h.left.hold.entry C n hn).mono ?_
  rintro e w' ⟨-, hb, ⟨-, -, v, rfl, h2⟩ | ⟨h2, -⟩⟩
  · exact ⟨v, rfl, h2.plus, h.more C hb, hb⟩
  · omega
theorem BS.clone (C : BookC B) (h : BS B p s K w W) : Calls Tryd.prog 25 #[.pointer (some p)] W fun e w' => ∃ q, e = .returned (.pointer (some q)) ∧ BT B p q s s K w w' ∧ Below W.heap.size W w' := by
  obtain ⟨⟨F, h1, h2, h3⟩, h4, h5⟩ := h
  refine (C.clone h1).mono ?_
  rintro e w' ⟨hb, q, G, rfl, h6, h7⟩
  exact ⟨q, rfl, ⟨⟨F, G, C.up h1 hb, h6, h2, fun k hk => Nat.le_trans h4.size (h7 k hk), fun k hf hg => by have := C.lt h1 k hf; have := h7 k hg; omega, h3, fun k hg hk => by have := (h5 k hk).2; have := h7 k hg; omega⟩, h4.trans (hb.mono h4.size),
    fun k hk => ⟨(h5 k hk).1, Nat.lt_of_lt_of_le (h5 k hk).2 hb.size⟩⟩, hb⟩
end

/-- a row's cells may be written -/
def Room10 (b off n : Nat) (w : World) : Prop := ∀ i, i < 3 * n → (∃ v, w.cell? ⟨b, off + i, none⟩ = some v) ∧ w.frozen? ⟨b, off + i, none⟩ = false
theorem Room10.set {b off n : Nat} {w : World} (h : Room10 b off n w) (x : Addr) (v : Value) : Room10 b off n (w.setCell x v) := fun i hi => by
  obtain ⟨⟨u, h1⟩, h2⟩ := h i hi
  refine ⟨?_, by rw [World.frozen?_setCell]; exact h2⟩
  by_cases e : (⟨b, off + i, none⟩ : Addr) = x
  · subst e; exact ⟨v, World.cell?_setCell_same _ _ _ h1⟩
  · exact ⟨u, by rw [World.cell?_setCell_other _ _ _ _ (fun h => e h.symm)]; exact h1⟩
theorem InKL.room {K : Nat → Prop} {a : Option Addr} {n c : Nat} {ls : List Ln} {w : World} (h : InKL K (.slice a n c) ls w) (hn : 0 < n) : ∃ b off, a = some ⟨b, off, none⟩ ∧ Room10 b off n w ∧ K b ∧ ls.length = n := by
  obtain ⟨a', c', e, -, h3, h4⟩ := h
  simp only [Value.slice.injEq] at e
  obtain ⟨rfl, rfl, rfl⟩ := e
  rcases h3.2 with h0 | ⟨b, off, rfl, hc⟩
  · omega
  · rcases h4 _ rfl with h5 | ⟨h5, h6⟩
    · omega
    · refine ⟨b, off, rfl, fun i hi => ⟨?_, h6 i hi⟩, h5, rfl⟩
      have hj : i / 3 < ls.length := by omega
      obtain ⟨q1, q2, q3⟩ := hc _ _ (List.getElem?_eq_getElem hj)
      have h7 : i % 3 = 0 ∨ i % 3 = 1 ∨ i % 3 = 2 := by omega
      rcases h7 with h7 | h7 | h7
      · exact ⟨_, by rw [show off + i = off + i / 3 * 3 by omega]; exact q1⟩
      · exact ⟨_, by rw [show off + i = off + i / 3 * 3 + 1 by omega]; exact q2⟩
      · exact ⟨_, by rw [show off + i = off + i / 3 * 3 + 2 by omega]; exact q3⟩
end Go.Proofs.YtcdkgfjjgebcnaaDoor
