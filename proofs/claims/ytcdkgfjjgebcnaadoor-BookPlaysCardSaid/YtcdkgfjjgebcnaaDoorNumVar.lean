/- A long number in a variable of its own. -/
import Derived.Test.YtcdkgfjjgebcnaaDoorRef3
namespace Go.Proofs.YtcdkgfjjgebcnaaDoor
open Go Go.RowKit
set_option linter.unusedVariables false

/-- a long number in a variable of its own -/
structure NumVar (w : World) (N : Nat) (n : Int) (a : Option Addr) (len cap : Nat) (m : Bool) : Prop where
  c0 : w.cell? ⟨N, 0, none⟩ = some (.slice a len cap)
  c1 : w.cell? ⟨N, 1, none⟩ = some (.bool m)
  f0 : w.frozen? ⟨N, 0, none⟩ = false
  f1 : w.frozen? ⟨N, 1, none⟩ = false
  num : NumAt w (.agg #[.slice a len cap, .bool m]) n
  sz : ∀ o, 2 ≤ o → w.cell? ⟨N, o, none⟩ = none

theorem NumVar.up {w w' : World} {N : Nat} {n : Int} {a : Option Addr} {len cap : Nat} {m : Bool} (h : NumVar w N n a len cap m) (hb : Below w.heap.size w w') : NumVar w' N n a len cap m := by
  obtain ⟨hc, hf⟩ := bcell hb
  have hlt : N < w.heap.size := cell_lt h.c0
  exact ⟨by rw [hc _ _ hlt]; exact h.c0, by rw [hc _ _ hlt]; exact h.c1, by rw [hf _ _ hlt]; exact h.f0, by rw [hf _ _ hlt]; exact h.f1, h.num.up hb, fun o ho => by rw [hc _ _ hlt]; exact h.sz o ho⟩

/-- a number's digits lie elsewhere -/
theorem NumVar.far {w : World} {N : Nat} {n n' : Int} {a a' : Option Addr} {len cap len' cap' : Nat} {m m' : Bool} (h : NumVar w N n a len cap m) (hn : NumAt w (.agg #[.slice a' len' cap', .bool m']) n') :
    ∀ x, a' = some x → len' = 0 ∨ x.block ≠ N := by
  intro x hx
  obtain ⟨a2, l2, c2, ds, he, hc, _⟩ := hn
  simp only [Value.agg.injEq, Array.mk.injEq, List.cons.injEq, Value.slice.injEq, Value.bool.injEq, and_true] at he
  obtain ⟨⟨rfl, rfl, rfl⟩, _⟩ := he
  by_cases h0 : len' = 0
  · exact Or.inl h0
  · right
    obtain ⟨b, off, rfl, hcell⟩ := hc.digit (i := 0) (by omega)
    cases hx
    intro e
    have e' : b = N := e
    subst e'
    rw [Nat.add_zero] at hcell
    have h3 : off = 0 ∨ off = 1 ∨ 2 ≤ off := by omega
    rcases h3 with rfl | rfl | h3
    · rw [h.c0] at hcell; cases hcell
    · rw [h.c1] at hcell; cases hcell
    · rw [h.sz off h3] at hcell; cases hcell

/-- stored into the variable -/
theorem NumVar.put {w : World} {N : Nat} {n n' : Int} {a a' : Option Addr} {len cap len' cap' : Nat} {m m' : Bool} (h : NumVar w N n a len cap m) (hn : NumAt w (.agg #[.slice a' len' cap', .bool m']) n') :
    NumVar ((w.setCell ⟨N, 0, none⟩ (.slice a' len' cap')).setCell ⟨N, 1, none⟩ (.bool m')) N n' a' len' cap' m' := by
  have hblk := h.far hn
  obtain ⟨a2, l2, c2, ds, he, hc, hrest⟩ := hn
  have h0 := h.c0
  have h1 := h.c1
  have hf0 := h.f0
  have hf1 := h.f1
  simp only [Value.agg.injEq, Array.mk.injEq, List.cons.injEq, Value.slice.injEq, Value.bool.injEq, and_true] at he
  obtain ⟨⟨rfl, rfl, rfl⟩, rfl⟩ := he
  refine ⟨?_, ?_, ?_, ?_, ⟨a', len', cap', ds, rfl, cells_two hc hblk _ _, hrest⟩, fun o ho => ?_⟩
  · rw [World.cell?_setCell_other]
    · exact World.cell?_setCell_same _ _ _ h0
    · intro e; cases e
  · have h2 : (w.setCell ⟨N, 0, none⟩ (.slice a' len' cap')).cell? ⟨N, 1, none⟩ = some (.bool m) := by
      rw [World.cell?_setCell_other]
      · exact h1
      · intro e; cases e
    exact World.cell?_setCell_same _ _ _ h2
  · rw [World.frozen?_setCell, World.frozen?_setCell]; exact hf0
  · rw [World.frozen?_setCell, World.frozen?_setCell]; exact hf1
  · rw [World.cell?_setCell_other, World.cell?_setCell_other]
    · exact h.sz o ho
    · intro e; injection e with _ e2; omega
    · intro e; injection e with _ e2; omega

theorem new_none (w : World) {a b : Value} {t : TypeId} {o : Nat} (ho : 2 ≤ o) : (w.alloc (Obj.cells #[a, b] t)).cell? ⟨w.heap.size, o, none⟩ = none := by
  rw [cell_of_row (w.alloc (Obj.cells #[a, b] t)) w.heap.size o #[a, b] t (0, 0) (heap_alloc_new w _)]
  simp; omega

theorem build_num (w : World) : (Instr.build 54 #[]).run Tryd.prog w = .ok (.agg #[.slice none 0 0, .bool false]) w := run_build w 54 #[] _ (by kernel_rfl)
end Go.Proofs.YtcdkgfjjgebcnaaDoor
