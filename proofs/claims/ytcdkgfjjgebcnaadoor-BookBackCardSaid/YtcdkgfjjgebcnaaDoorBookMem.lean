/- Rows of lines in memory. -/
import Derived.Test.YtcdkgfjjgebcnaaDoorBookNum
import Derived.Test.YtcdkgfjjgebcnaaDoorOnly
import Derived.Test.YtcdkgfjjgebcnaaDoorErr
namespace Go.Proofs.YtcdkgfjjgebcnaaDoor
open Go Go.RowKit
set_option linter.unusedVariables false

/-- a row of lines, three cells each -/
def LinesAt (w : World) (a : Option Addr) (n : Nat) (ls : List Ln) : Prop :=
  ls.length = n ∧ (n = 0 ∨ ∃ b off, a = some ⟨b, off, none⟩ ∧ ∀ (j : Nat) (x : Ln), ls[j]? = some x → w.cell? ⟨b, off + j * 3, none⟩ = some (.int .i64 x.k) ∧ w.cell? ⟨b, off + j * 3 + 1, none⟩ = some (.int .i64 x.o) ∧ w.cell? ⟨b, off + j * 3 + 2, none⟩ = some (.int .i64 x.v))
def OkL (ls : List Ln) : Prop := ∀ x ∈ ls, x.ok

theorem linesAt_nil (w : World) (a : Option Addr) : LinesAt w a 0 [] := ⟨rfl, Or.inl rfl⟩
theorem LinesAt.lt {w : World} {a : Option Addr} {n : Nat} {ls : List Ln} (h : LinesAt w a n ls) : ∀ x, a = some x → n = 0 ∨ x.block < w.heap.size := fun x hx => by
  rcases h.2 with h0 | ⟨b, off, e, hc⟩
  · exact Or.inl h0
  · by_cases h0 : n = 0
    · exact Or.inl h0
    · rw [hx] at e
      cases e
      have hl : 0 < ls.length := by rw [h.1]; omega
      exact Or.inr (cell_lt (hc 0 _ (List.getElem?_eq_getElem hl)).1)
theorem LinesAt.of_block {w w' : World} {a : Option Addr} {n : Nat} {ls : List Ln} (h : LinesAt w a n ls) (hb : ∀ x, a = some x → n = 0 ∨ w'.heap[x.block]? = w.heap[x.block]?) : LinesAt w' a n ls := by
  refine ⟨h.1, ?_⟩
  rcases h.2 with h0 | ⟨b, off, e, hc⟩
  · exact Or.inl h0
  · rcases hb _ e with h0 | hb
    · exact Or.inl h0
    · refine Or.inr ⟨b, off, e, fun j x hj => ?_⟩
      obtain ⟨h1, h2, h3⟩ := hc j x hj
      exact ⟨(World.cell?_of_block (a := ⟨b, off + j * 3, none⟩) hb).trans h1, (World.cell?_of_block (a := ⟨b, off + j * 3 + 1, none⟩) hb).trans h2, (World.cell?_of_block (a := ⟨b, off + j * 3 + 2, none⟩) hb).trans h3⟩
theorem LinesAt.up {w w' : World} {a : Option Addr} {n : Nat} {ls : List Ln} (h : LinesAt w a n ls) (hb : Below w.heap.size w w') : LinesAt w' a n ls :=
  h.of_block fun x hx => (h.lt x hx).elim Or.inl fun hl => Or.inr (hb.block _ hl)
theorem LinesAt.only {X : Nat → Prop} {w w' : World} {a : Option Addr} {n : Nat} {ls : List Ln} (h : LinesAt w a n ls) (ho : Only X w w') (hX : ∀ x, a = some x → n = 0 ∨ ¬ X x.block) : LinesAt w' a n ls :=
  h.of_block fun x hx => (h.lt x hx).elim Or.inl fun hl => (hX x hx).elim Or.inl fun hx' => Or.inr (ho.block _ hl hx')
theorem LinesAt.get {w : World} {a : Option Addr} {n : Nat} {ls : List Ln} (h : LinesAt w a n ls) {j : Nat} (hj : j < n) :
    ∃ b off x, a = some ⟨b, off, none⟩ ∧ ls[j]? = some x ∧ x ∈ ls ∧ w.cell? ⟨b, off + j * 3, none⟩ = some (.int .i64 x.k) ∧ w.cell? ⟨b, off + j * 3 + 1, none⟩ = some (.int .i64 x.o) ∧ w.cell? ⟨b, off + j * 3 + 2, none⟩ = some (.int .i64 x.v) := by
  have hl : j < ls.length := by rw [h.1]; exact hj
  rcases h.2 with h0 | ⟨b, off, e, hc⟩
  · omega
  · obtain ⟨h1, h2, h3⟩ := hc j _ (List.getElem?_eq_getElem hl)
    exact ⟨b, off, ls[j], e, List.getElem?_eq_getElem hl, List.getElem_mem hl, h1, h2, h3⟩
theorem LinesAt.take {w : World} {a : Option Addr} {n : Nat} {ls : List Ln} (h : LinesAt w a n ls) {m : Nat} (hm : m ≤ n) : LinesAt w a m (ls.take m) := by
  refine ⟨by rw [List.length_take, h.1]; omega, ?_⟩
  rcases h.2 with h0 | ⟨b, off, e, hc⟩
  · left; omega
  · refine Or.inr ⟨b, off, e, fun j x hj => hc j x ?_⟩
    rw [List.getElem?_take] at hj
    split at hj
    · exact hj
    · cases hj

/-- a row of lines that was told: new memory -/
def OwnLn (base : Nat) (v : Value) (ls : List Ln) (w : World) : Prop :=
  ∃ a c, v = .slice a ls.length c ∧ (ls.length ≤ c ∧ ls.length ≤ 9223372036854775807) ∧ LinesAt w a ls.length ls ∧ ∀ x, a = some x → ls.length = 0 ∨ (base ≤ x.block ∧ ∀ i, i < 3 * ls.length → w.frozen? ⟨x.block, x.off + i, none⟩ = false)

theorem OwnLn.up {base : Nat} {v : Value} {ls : List Ln} {w w' : World} (h : OwnLn base v ls w) (hb : Below w.heap.size w w') : OwnLn base v ls w' := by
  obtain ⟨a, c, h1, h2, h3, h4⟩ := h
  refine ⟨a, c, h1, h2, h3.up hb, fun x hx => ?_⟩
  rcases h4 x hx with h5 | ⟨h5, h6⟩
  · exact Or.inl h5
  · rcases h3.lt x hx with h7 | h7
    · exact Or.inl h7
    · exact Or.inr ⟨h5, fun i hi => by rw [hb.frozen (p := ⟨x.block, x.off + i, none⟩) h7]; exact h6 i hi⟩
theorem OwnLn.only {X : Nat → Prop} {base : Nat} {v : Value} {ls : List Ln} {w w' : World} (h : OwnLn base v ls w) (ho : Only X w w') (hX : ∀ k, base ≤ k → k < w.heap.size → ¬ X k) : OwnLn base v ls w' := by
  obtain ⟨a, c, h1, h2, h3, h4⟩ := h
  refine ⟨a, c, h1, h2, h3.only ho fun x hx => ?_, fun x hx => ?_⟩
  · rcases h4 x hx with h5 | ⟨h5, h6⟩
    · exact Or.inl h5
    · rcases h3.lt x hx with h7 | h7
      · exact Or.inl h7
      · exact Or.inr (hX _ h5 h7)
  · rcases h4 x hx with h5 | ⟨h5, h6⟩
    · exact Or.inl h5
    · rcases h3.lt x hx with h7 | h7
      · exact Or.inl h7
      · exact Or.inr ⟨h5, fun i hi => (World.frozen?_of_block (a := ⟨x.block, x.off + i, none⟩) (ho.block _ h7 (hX _ h5 h7))).trans (h6 i hi)⟩
theorem OwnLn.mono {base base' : Nat} {v : Value} {ls : List Ln} {w : World} (h : OwnLn base v ls w) (hb : base' ≤ base) : OwnLn base' v ls w := by
  obtain ⟨a, c, h1, h2, h3, h4⟩ := h
  exact ⟨a, c, h1, h2, h3, fun x hx => (h4 x hx).elim Or.inl fun h5 => Or.inr ⟨Nat.le_trans hb h5.1, h5.2⟩⟩
end Go.Proofs.YtcdkgfjjgebcnaaDoor
