/- The examples at the head of the statements of layer 1. -/
import Derived.Test.YtfhcifmgpnjijaaMulDiv
namespace Go.Proofs.Ytfhcifmgpnjijaa
open Go Go.RowKit
set_option linter.unusedVariables false

theorem mulDiv_is (a b c m v k : Int) (ha : -9223372036854775808 ≤ a ∧ a ≤ 9223372036854775807) (hb : -9223372036854775808 ≤ b ∧ b ≤ 9223372036854775807)
    (hc : -9223372036854775808 ≤ c ∧ c ≤ 9223372036854775807) (hv : mdV a b c m = v) (hk : mdE a b c m = k) (w : World) :
    Calls Try.prog 22 #[.int .i64 a, .int .i64 b, .int .i64 c, .int .i64 m] w fun e w' =>
      e = .returned (.tuple #[.int .i64 v, errv k]) ∧ ∃ n, w' = World.drewN w n := by
  rw [← hv, ← hk]; exact mulDiv_any a b c m ha hb hc w

set_option maxHeartbeats 400000 in
theorem up_any (w : World) : Calls Try.prog 12 #[] w fun e w' => e = .returned (.bool true) ∧ ∃ n, w' = World.drewN w n := by
  have r1 := fun w => run_eql_code (w := w) 1 1
  go_enter Try.func12, Try.ntmps12
  go_wp2_with fail
  refine (mulDiv_is (-7) 1 2 1 (-4) 0 (by omega) (by omega) (by omega) (by decide +kernel) (by decide +kernel) _).mono ?_
  rintro e w' ⟨rfl, n, rfl⟩
  rw [errv_0]
  go_wp2_with fail
  refine (mulDiv_is 5 1 2 4 2 0 (by omega) (by omega) (by omega) (by decide +kernel) (by decide +kernel) _).mono ?_
  rintro e w' ⟨rfl, n, rfl⟩
  rw [errv_0]
  go_wp2_with fail
  refine (mulDiv_is 1 1 0 2 0 1 (by omega) (by omega) (by omega) (by decide +kernel) (by decide +kernel) _).mono ?_
  rintro e w' ⟨rfl, n, rfl⟩
  rw [errv_1]
  go_wp2_with fail
  go_ret
  exact ⟨rfl, _, rfl⟩
end Go.Proofs.Ytfhcifmgpnjijaa
