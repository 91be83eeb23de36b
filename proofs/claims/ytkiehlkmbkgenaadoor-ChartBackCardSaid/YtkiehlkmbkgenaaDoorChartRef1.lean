/- The document's answer of layer 9: May. -/
import Derived.Test.YtkiehlkmbkgenaaDoorChartC
namespace Go.Proofs.YtkiehlkmbkgenaaDoor
open Go Go.RowKit
set_option linter.unusedVariables false

set_option maxRecDepth 100000 in
set_option maxHeartbeats 4000000 in
theorem refMay_any (k o : Int) (w : World) : Calls Tryd.prog 8 #[accV k o] w
    fun e w' => e = .returned (.bool (decide (MayK k o))) ∧ Below w.heap.size w w' := by
  have hb : Below w.heap.size w (w.alloc (Obj.cells #[.int .i64 k, .int .i64 o] 23)) := (Below.refl _ _).alloc (Nat.le_refl _) _
  have hcase : (k < 1 ∧ k ≤ 3 ∧ k < 4 ∧ ¬ MayK k o) ∨ (1 ≤ k ∧ k ≤ 3 ∧ (o == 0) = true ∧ MayK k o) ∨ (1 ≤ k ∧ k ≤ 3 ∧ (o == 0) = false ∧ ¬ MayK k o) ∨
      (1 ≤ k ∧ 3 < k ∧ 4 ≤ k ∧ 12 < k ∧ ¬ MayK k o) ∨ (1 ≤ k ∧ 3 < k ∧ 4 ≤ k ∧ k ≤ 12 ∧ o < 1 ∧ ¬ MayK k o) ∨ (1 ≤ k ∧ 3 < k ∧ 4 ≤ k ∧ k ≤ 12 ∧ 1 ≤ o ∧ 65536 < o ∧ ¬ MayK k o) ∨
      (1 ≤ k ∧ 3 < k ∧ 4 ≤ k ∧ k ≤ 12 ∧ 1 ≤ o ∧ o ≤ 65536 ∧ MayK k o) := by
    have e : (o == 0) = true ↔ o = 0 := by simp
    have e' : (o == 0) = false ↔ ¬ o = 0 := by simp
    rw [e, e']
    unfold MayK
    omega
  go_enter Tryd.func8, Tryd.ntmps8
  rcases hcase with ⟨t1, t2, t3, h⟩ | ⟨t1, t2, t3, h⟩ | ⟨t1, t2, t3, h⟩ | ⟨t1, t2, t3, t4, h⟩ | ⟨t1, t2, t3, t4, t5, h⟩ | ⟨t1, t2, t3, t4, t5, t6, h⟩ | ⟨t1, t2, t3, t4, t5, t6, h⟩
  all_goals
    simp only [h, decide_true, decide_false]
    clear h
    go_wp2_with fail
    go_ret
    exact ⟨by first | (simp; done) | (simp; omega), hb⟩
end Go.Proofs.YtkiehlkmbkgenaaDoor
