/- Rows of bytes that a caller may write. -/
import Derived.Test.YtehfbafocbcfnaaBytes
import Derived.Laws.OwnMore
namespace Go.Proofs.Ytehfbafocbcfnaa
open Go Go.RowKit
set_option linter.unusedVariables false

theorem own_cap {w : World} {B n cap : Nat} {a : Option Addr} {e : TypeId} {xs : List Value} (h : w.ownsRow B e 1 (.slice a n cap) n xs) : n ≤ cap ∧ cap ≤ maxLen := by
  rcases h.2 with ⟨e, _⟩ | ⟨g, c, cur, e, _, _, h1, h2, _⟩
  · cases e; exact ⟨Nat.le_refl _, by simp [maxLen]⟩
  · cases e; exact ⟨h1, h2⟩

/-- m bytes at a, in a block from B on and below U, that may be written -/
def Mine (B U : Nat) (a : Option Addr) (m : Nat) (w : World) : Prop :=
  U ≤ w.heap.size ∧ (m = 0 ∨ ∃ g off, a = some ⟨g, off, none⟩ ∧ B ≤ g ∧ g < U ∧ ∀ j, j < m → (∃ x, w.cell? ⟨g, off + j, none⟩ = some (.int .u8 x)) ∧ w.frozen? ⟨g, off + j, none⟩ = false)

theorem Mine.empty {B U : Nat} {a : Option Addr} {w : World} (h : U ≤ w.heap.size) : Mine B U a 0 w := ⟨h, Or.inl rfl⟩

theorem Mine.of_own {w : World} {B m c : Nat} {a : Option Addr} {ds : List Nat} (h : w.ownsRow B 5 1 (.slice a m c) m (ds.map b8)) : Mine B w.heap.size a m w := by
  refine ⟨Nat.le_refl _, ?_⟩
  have hl : ds.length = m := by have := h.1; rw [List.length_map] at this; omega
  have hlt := h.lt
  rcases h.2 with ⟨h1, h2⟩ | ⟨g, cap, cur, he, hB, hh, hc, hm, hs, ht⟩
  · exact Or.inl h2
  · cases he
    refine Or.inr ⟨g, 0, rfl, hB, (hlt g rfl).2, fun j hj => ⟨?_, ?_⟩⟩
    · refine ⟨(ds.getD j 0 : Nat), ?_⟩
      rw [Nat.zero_add, h.cellAt j (by omega)]
      simp [List.getD, b8, show j < ds.length by omega]
    · rw [Nat.zero_add]; exact h.frozenAt j

theorem Mine.up {B U m : Nat} {a : Option Addr} {w w' : World} (h : Mine B U a m w) (hb : Below w.heap.size w w') : Mine B U a m w' := by
  refine ⟨Nat.le_trans h.1 hb.size, ?_⟩
  rcases h.2 with h2 | ⟨g, off, rfl, hB, hU, hc⟩
  · exact Or.inl h2
  · have hlt : g < w.heap.size := Nat.lt_of_lt_of_le hU h.1
    refine Or.inr ⟨g, off, rfl, hB, hU, fun j hj => ⟨?_, ?_⟩⟩
    · obtain ⟨x, hx⟩ := (hc j hj).1
      exact ⟨x, by rw [hb.cell (p := ⟨g, off + j, none⟩) hlt]; exact hx⟩
    · rw [hb.frozen (p := ⟨g, off + j, none⟩) hlt]; exact (hc j hj).2

theorem Mine.get {B U m : Nat} {a : Option Addr} {w : World} (h : Mine B U a m w) {j : Nat} (hj : j < m) :
    ∃ g off x, a = some ⟨g, off, none⟩ ∧ B ≤ g ∧ g < U ∧ w.cell? ⟨g, off + j, none⟩ = some (.int .u8 x) ∧ w.frozen? ⟨g, off + j, none⟩ = false := by
  rcases h.2 with h0 | ⟨g, off, rfl, hB, hU, hc⟩
  · omega
  · obtain ⟨⟨x, hx⟩, hf⟩ := hc j hj
    exact ⟨g, off, x, rfl, hB, hU, hx, hf⟩

theorem Mine.set {B U m g off j : Nat} {w : World} (h : Mine B U (some ⟨g, off, none⟩) m w) (hj : j < m) (x : Int) : Mine B U (some ⟨g, off, none⟩) m (w.setCell ⟨g, off + j, none⟩ (.int .u8 x)) := by
  refine ⟨by rw [World.size_setCell]; exact h.1, ?_⟩
  rcases h.2 with h0 | ⟨g', off', he, hB, hU, hc⟩
  · exact Or.inl h0
  · cases he
    refine Or.inr ⟨g, off, rfl, hB, hU, fun i hi => ⟨?_, ?_⟩⟩
    · by_cases hij : i = j
      · subst hij
        obtain ⟨y, hy⟩ := (hc i hi).1
        exact ⟨x, World.cell?_setCell_same _ _ _ hy⟩
      · obtain ⟨y, hy⟩ := (hc i hi).1
        refine ⟨y, ?_⟩
        rw [World.cell?_setCell_other _ _ _ _ (by simp; try omega)]
        exact hy
    · rw [World.frozen?_setCell]; exact (hc i hi).2
end Go.Proofs.Ytehfbafocbcfnaa
