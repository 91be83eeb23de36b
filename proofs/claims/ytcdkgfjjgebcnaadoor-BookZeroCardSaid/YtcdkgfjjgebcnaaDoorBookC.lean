/- What is asked of package book's calls; the example at the head of layer 10's statements. -/
import Derived.Test.YtcdkgfjjgebcnaaDoorBookMem
import Derived.Test.YtcdkgfjjgebcnaaDoorKin
import Derived.LoopTactic
import Derived.RegionTactic
import Derived.Deep.QuietTactic
import Derived.BigQuiet
import Derived.Lib.Hide
import Derived.Deep.Draws
import Derived.WalkSmall
import Derived.WalkSpells
namespace Go.Proofs.YtcdkgfjjgebcnaaDoor
open Go Go.RowKit
set_option linter.unusedVariables false

/-- B F p s w: at p lie books, their memory in the blocks of F, that are as s says -/
structure BookC (B : (Nat → Prop) → Addr → Bk → World → Prop) : Prop where
  lt : ∀ {F p s w}, B F p s w → ∀ k, F k → k < w.heap.size
  kin : ∀ {F p s w}, B F p s w → Kin w
  keep : ∀ {F p s w w'} {X : Nat → Prop}, B F p s w → Only X w w' → (∀ k, X k → ¬ F k) → Kin w' → B F p s w'
  new : ∀ (w : World), Kin w → Calls Tryd.prog 11 #[] w fun e w' => Below w.heap.size w w' ∧ ∃ p F, e = .returned (.pointer (some p)) ∧ B F p Bk.zero w' ∧ ∀ k, F k → w.heap.size ≤ k
  post : ∀ {F p s w} (a : Option Addr) (n c : Nat) (ls : List Ln), B F p s w → LinesAt w a n ls → OkL ls → (∀ x, a = some x → n = 0 ∨ ¬ F x.block) → n ≤ c → c ≤ maxLen → n ≤ 1000 →
    Calls Tryd.prog 22 #[.pointer (some p), .slice a n c] w fun e w' => Only F w w' ∧ ∃ F', (∀ k, F' k → F k ∨ w.heap.size ≤ k) ∧
      ((s.mayN ls = 0 ∧ e = .returned (.tuple #[.int .i64 (s.L.length : Int), .nilIface]) ∧ B F' p (s.post ls) w') ∨
        (s.mayN ls ≠ 0 ∧ e = .returned (.tuple #[.int .i64 0, errv (s.mayN ls : Int)]) ∧ B F' p s w'))
  reverse : ∀ {F p s w} (n : Int), B F p s w → in64 n →
    Calls Tryd.prog 21 #[.pointer (some p), .int .i64 n] w fun e w' => Only F w w' ∧ ∃ F', (∀ k, F' k → F k ∨ w.heap.size ≤ k) ∧
      ((s.revN n = 0 ∧ e = .returned (.tuple #[.int .i64 (s.L.length : Int), .nilIface]) ∧ B F' p (s.rev n) w') ∨
        (s.revN n ≠ 0 ∧ e = .returned (.tuple #[.int .i64 0, errv (s.revN n : Int)]) ∧ B F' p s w'))
  balance : ∀ {F p s w} (k o : Int), B F p s w → in64 k → in64 o →
    Calls Tryd.prog 16 #[.pointer (some p), .agg #[.int .i64 k, .int .i64 o]] w fun e w' => Below w.heap.size w w' ∧ e = .returned (.int .i64 (s.bal k o))
  entry : ∀ {F p s w} (n : Int), B F p s w → in64 n →
    Calls Tryd.prog 13 #[.pointer (some p), .int .i64 n] w fun e w' => Below w.heap.size w w' ∧
      ((0 ≤ n ∧ n < (s.L.length : Int) ∧ ∃ v, e = .returned (.tuple #[v, .nilIface]) ∧ OwnLn w.heap.size v (s.L.getD n.toNat []) w') ∨
        ((n < 0 ∨ (s.L.length : Int) ≤ n) ∧ ∃ a c, e = .returned (.tuple #[.slice a 0 c, errv 4])))
  len : ∀ {F p s w}, B F p s w → Calls Tryd.prog 15 #[.pointer (some p)] w fun e w' => Below w.heap.size w w' ∧ e = .returned (.int .i64 (s.L.length : Int))
  trial : ∀ {F p s w}, B F p s w → Calls Tryd.prog 18 #[.pointer (some p)] w fun e w' => Below w.heap.size w w' ∧ ∃ v t, e = .returned v ∧ OwnLn w.heap.size v t w' ∧ Trial s.bal t
  clone : ∀ {F p s w}, B F p s w → Calls Tryd.prog 25 #[.pointer (some p)] w fun e w' => Below w.heap.size w w' ∧ ∃ q G, e = .returned (.pointer (some q)) ∧ B G q s w' ∧ ∀ k, G k → w.heap.size ≤ k

theorem BookC.up {B : (Nat → Prop) → Addr → Bk → World → Prop} (C : BookC B) {F : Nat → Prop} {p : Addr} {s : Bk} {w w' : World} (h : B F p s w) (hb : Below w.heap.size w w') : B F p s w' :=
  C.keep (X := fun _ => False) h (Only.of_below hb) (fun _ hf => hf.elim) ((C.kin h).of hb)

/-- books, all of whose memory is new to w -/
structure BHold (B : (Nat → Prop) → Addr → Bk → World → Prop) (p : Addr) (s : Bk) (w W : World) : Prop where
  at' : ∃ F, B F p s W ∧ ∀ k, F k → w.heap.size ≤ k
  below : Below w.heap.size w W

section
variable {B : (Nat → Prop) → Addr → Bk → World → Prop} {p : Addr} {s : Bk} {w W W' : World}
theorem BHold.up (C : BookC B) (h : BHold B p s w W) (hb : Below W.heap.size W W') : BHold B p s w W' := by
  obtain ⟨⟨F, h1, h2⟩, h3⟩ := h
  exact ⟨⟨F, C.up h1 hb, h2⟩, h3.trans (hb.mono h3.size)⟩
theorem BHold.drewN (C : BookC B) (h : BHold B p s w W) (n : Nat) : BHold B p s w (W.drewN n) := h.up C (below_drewN (Below.refl _ _) n)
/-- a row that was there at w: books don't touch it -/
theorem BHold.lines {a : Option Addr} {n : Nat} {ls : List Ln} (h : BHold B p s w W) (hl : LinesAt w a n ls) : LinesAt W a n ls := by
  refine hl.of_block fun x hx => (hl.lt x hx).elim Or.inl fun hlt => Or.inr (h.below.block _ hlt)
theorem BHold.new (C : BookC B) (w : World) (T : Kin w) : Calls Tryd.prog 11 #[] w fun e w' => ∃ p, e = .returned (.pointer (some p)) ∧ BHold B p Bk.zero w w' := by
  refine (C.new w T).mono ?_
  rintro e w' ⟨hb, p, F, rfl, h1, h2⟩
  exact ⟨p, rfl, ⟨F, h1, h2⟩, hb⟩
/-- what Post tells -/
def PostTo (B : (Nat → Prop) → Addr → Bk → World → Prop) (p : Addr) (s : Bk) (w : World) (ls : List Ln) (e : Ending) (w' : World) : Prop :=
  (s.mayN ls = 0 ∧ e = .returned (.tuple #[.int .i64 (s.L.length : Int), errv 0]) ∧ BHold B p (s.post ls) w w') ∨
    (s.mayN ls ≠ 0 ∧ e = .returned (.tuple #[.int .i64 0, errv (s.mayN ls : Int)]) ∧ BHold B p s w w')
theorem BHold.post (C : BookC B) (h : BHold B p s w W) (a : Option Addr) (n c : Nat) (ls : List Ln) (hl : LinesAt W a n ls) (hok : OkL ls) (hx : ∀ x, a = some x → n = 0 ∨ ∀ F, B F p s W → (∀ k, F k → w.heap.size ≤ k) → ¬ F x.block) (hc : n ≤ c) (hm : c ≤ maxLen) (hn : n ≤ 1000) :
    Calls Tryd.prog 22 #[.pointer (some p), .slice a n c] W (PostTo B p s w ls) := by
  obtain ⟨⟨F, h1, h2⟩, h3⟩ := h
  refine (C.post a n c ls h1 hl hok (fun x e => (hx x e).elim Or.inl fun h => Or.inr (h F h1 h2)) hc hm hn).mono ?_
  rintro e w' ⟨ho, F', hF', ⟨g, rfl, hd⟩ | ⟨g, rfl, hd⟩⟩
  · exact Or.inl ⟨g, rfl, ⟨F', hd, fun k hk => (hF' k hk).elim (h2 k) fun h' => Nat.le_trans h3.size h'⟩, h3.trans (ho.below h3.size h2)⟩
  · exact Or.inr ⟨g, rfl, ⟨F', hd, fun k hk => (hF' k hk).elim (h2 k) fun h' => Nat.le_trans h3.size h'⟩, h3.trans (ho.below h3.size h2)⟩
/-- .. of a row that was there at w -/
theorem BHold.postOld (C : BookC B) (h : BHold B p s w W) (a : Option Addr) (n c : Nat) (ls : List Ln) (hl : LinesAt w a n ls) (hok : OkL ls) (hc : n ≤ c) (hm : c ≤ maxLen) (hn : n ≤ 1000) :
    Calls Tryd.prog 22 #[.pointer (some p), .slice a n c] W (PostTo B p s w ls) :=
  h.post C a n c ls (h.lines hl) hok (fun x e => (hl.lt x e).elim Or.inl fun hlt => Or.inr fun F _ h2 hf => by have := h2 _ hf; omega) hc hm hn
/-- .. of a row that was made later than the books turned last -/
theorem BHold.postNew (C : BookC B) (h : BHold B p s w W) (hb : Below W.heap.size W W') (a : Option Addr) (n c : Nat) (ls : List Ln) (hl : LinesAt W' a n ls) (hok : OkL ls) (hx : ∀ x, a = some x → n = 0 ∨ W.heap.size ≤ x.block) (hc : n ≤ c) (hm : c ≤ maxLen) (hn : n ≤ 1000) :
    Calls Tryd.prog 22 #[.pointer (some p), .slice a n c] W' (PostTo B p s w ls) := by
  obtain ⟨⟨F, h1, h2⟩, h3⟩ := h
  have h4 := h3.trans (hb.mono h3.size)
  refine (C.post a n c ls (C.up h1 hb) hl hok (fun x e => (hx x e).elim Or.inl fun h => Or.inr fun hf => by have := C.lt h1 _ hf; omega) hc hm hn).mono ?_
  rintro e w' ⟨ho, F', hF', ⟨g, rfl, hd⟩ | ⟨g, rfl, hd⟩⟩
  · exact Or.inl ⟨g, rfl, ⟨F', hd, fun k hk => (hF' k hk).elim (h2 k) fun h' => Nat.le_trans h4.size h'⟩, h4.trans (ho.below h4.size h2)⟩
  · exact Or.inr ⟨g, rfl, ⟨F', hd, fun k hk => (hF' k hk).elim (h2 k) fun h' => Nat.le_trans h4.size h'⟩, h4.trans (ho.below h4.size h2)⟩
def RevTo (B : (Nat → Prop) → Addr → Bk → World → Prop) (p : Addr) (s : Bk) (w : World) (n : Int) (e : Ending) (w' : World) : Prop :=
  (s.revN n = 0 ∧ e = .returned (.tuple #[.int .i64 (s.L.length : Int), errv 0]) ∧ BHold B p (s.rev n) w w') ∨
    (s.revN n ≠ 0 ∧ e = .returned (.tuple #[.int .i64 0, errv (s.revN n : Int)]) ∧ BHold B p s w w')
theorem BHold.reverse (C : BookC B) (h : BHold B p s w W) (n : Int) (hn : in64 n) : Calls Tryd.prog 21 #[.pointer (some p), .int .i64 n] W (RevTo B p s w n) := by
  obtain ⟨⟨F, h1, h2⟩, h3⟩ := h
  refine (C.reverse n h1 hn).mono ?_
  rintro e w' ⟨ho, F', hF', ⟨g, rfl, hd⟩ | ⟨g, rfl, hd⟩⟩
  · exact Or.inl ⟨g, rfl, ⟨F', hd, fun k hk => (hF' k hk).elim (h2 k) fun h' => Nat.le_trans h3.size h'⟩, h3.trans (ho.below h3.size h2)⟩
  · exact Or.inr ⟨g, rfl, ⟨F', hd, fun k hk => (hF' k hk).elim (h2 k) fun h' => Nat.le_trans h3.size h'⟩, h3.trans (ho.below h3.size h2)⟩
theorem BHold.trial (C : BookC B) (h : BHold B p s w W) : Calls Tryd.prog 18 #[.pointer (some p)] W fun e w' => ∃ v t, e = .returned v ∧ OwnLn W.heap.size v t w' ∧ Trial s.bal t ∧ BHold B p s w w' ∧ Below W.heap.size W w' := by
  obtain ⟨F, h1, h2⟩ := h.at'
  refine (C.trial h1).mono ?_
  rintro e w' ⟨hb, v, t, rfl, h4, h5⟩
  exact ⟨v, t, rfl, h4, h5, h.up C hb, hb⟩
theorem BHold.balance (C : BookC B) (h : BHold B p s w W) (k o : Int) (hk : in64 k) (ho : in64 o) : Calls Tryd.prog 16 #[.pointer (some p), .agg #[.int .i64 k, .int .i64 o]] W fun e w' => e = .returned (.int .i64 (s.bal k o)) ∧ Below W.heap.size W w' ∧ BHold B p s w w' := by
  obtain ⟨F, h1, h2⟩ := h.at'
  refine (C.balance k o h1 hk ho).mono ?_
  rintro e w' ⟨hb, rfl⟩
  exact ⟨rfl, hb, h.up C hb⟩
theorem BHold.len (C : BookC B) (h : BHold B p s w W) : Calls Tryd.prog 15 #[.pointer (some p)] W fun e w' => e = .returned (.int .i64 (s.L.length : Int)) ∧ BHold B p s w w' ∧ Below W.heap.size W w' := by
  obtain ⟨F, h1, h2⟩ := h.at'
  refine (C.len h1).mono ?_
  rintro e w' ⟨hb, rfl⟩
  exact ⟨rfl, h.up C hb, hb⟩
theorem BHold.entry (C : BookC B) (h : BHold B p s w W) (n : Int) (hn : in64 n) : Calls Tryd.prog 13 #[.pointer (some p), .int .i64 n] W fun e w' => BHold B p s w w' ∧ Below W.heap.size W w' ∧
      ((0 ≤ n ∧ n < (s.L.length : Int) ∧ ∃ v, e = .returned (.tuple #[v, errv 0]) ∧ OwnLn W.heap.size v (s.L.getD n.toNat []) w') ∨
        ((n < 0 ∨ (s.L.length : Int) ≤ n) ∧ ∃ a c, e = .returned (.tuple #[.slice a 0 c, errv 4]))) := by
  obtain ⟨F, h1, h2⟩ := h.at'
  refine (C.entry n h1 hn).mono ?_
  rintro e w' ⟨hb, h5⟩
  exact ⟨h.up C hb, hb, h5⟩
end

theorem two_lines (w : World) : LinesAt (w.alloc (Obj.cells #[.int .i64 1, .int .i64 0, .int .i64 5, .int .i64 5, .int .i64 1, .int .i64 (-5)] 56)) (some ⟨w.heap.size, 0, none⟩) 2 [⟨1, 0, 5⟩, ⟨5, 1, -5⟩] := by
  refine ⟨rfl, Or.inr ⟨_, 0, rfl, fun j x hj => ?_⟩⟩
  match j with
  | 0 => simp only [List.getElem?_cons_zero, Option.some.injEq] at hj; subst hj; exact ⟨by simp, by simp, by simp⟩
  | 1 => simp only [List.getElem?_cons_succ, List.getElem?_cons_zero, Option.some.injEq] at hj; subst hj; exact ⟨by simp, by simp, by simp⟩
  | (j + 2) => simp at hj
theorem up_may : Bk.zero.mayN [⟨1, 0, 5⟩, ⟨5, 1, -5⟩] = 0 := by decide +kernel
theorem up_trial {t : List Ln} (h : Trial (Bk.zero.post [⟨1, 0, 5⟩, ⟨5, 1, -5⟩]).bal t) : t = [⟨1, 0, 5⟩, ⟨5, 1, -5⟩] := by
  refine sorted_unique _ _ h.1 (by simp [Before, LessK]) fun x => ?_
  rw [h.2]
  have e : (Bk.zero.post [⟨1, 0, 5⟩, ⟨5, 1, -5⟩]).bal x.k x.o = (if 1 = x.k ∧ 0 = x.o then 5 else 0) + ((if 5 = x.k ∧ 1 = x.o then -5 else 0) + 0) := rfl
  rw [e]
  obtain ⟨k, o, v⟩ := x
  simp only [List.mem_cons, List.not_mem_nil, or_false, Ln.mk.injEq]
  split <;> split <;> omega
end Go.Proofs.YtcdkgfjjgebcnaaDoor
