/- The examples at the head of the statements of layer 1. -/
import Derived.Test.YtheplpfhgifkcaaMulDiv
namespace Go.Proofs.Ytheplpfhgifkcaa
open Go Go.RowKit
set_option linter.unusedVariables false

set_option maxHeartbeats 400000 in
theorem up_any (w : World) : Calls Try.prog 12 #[] w fun e w' => e = .returned (.bool true) ∧ ∃ n, w' = World.drewN w n := by
  have r1 := fun w => run_eql_code (w := w) 1 1
  go_enter Try.func12, Try.ntmps12
  go_wp2_with fail
  refine (mulDiv_is (-7) 1 2 1 (-4) 0 (by omega) (by omega) (by omega) (by decide +kernel) (by decide +kernel) _).mono ?_
  rintro e w' ⟨rfl, n, rfl⟩
  rw [errv_0]
  go_wp2_with fail
  refine (mulDiv_is 5 1 2 4 2 0 (by omega) (by omega) (by omega) (by decide +kernel) (by decide +kernel) _).mono ?_
  rintro e w' ⟨rfl, n, rfl⟩
  rw [errv_0]
  go_wp2_with fail
  refine (mulDiv_is 1 1 0 2 0 1 (by omega) (by omega) (by omega) (by decide +kernel) (by decide +kernel) _).mono ?_
  rintro e w' ⟨rfl, n, rfl⟩
  rw [errv_1]
  go_wp2_with fail
  go_ret
  exact ⟨rfl, _, rfl⟩
end Go.Proofs.Ytheplpfhgifkcaa
