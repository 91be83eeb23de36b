/- The contract of cents.Mul. -/
import Derived.Test.YtheplpfhgifkcaaMulDiv
namespace Go.Proofs.Ytheplpfhgifkcaa
open Go Go.RowKit
set_option linter.unusedVariables false

theorem mul_num (a b : Int) : mdV a b 1 1 = ovV (a * b) ∧ mdE a b 1 1 = ovE (a * b) := by
  have h : rnd 1 (a * b) 1 = a * b := by simp [rnd, rndC]
  unfold mdV mdE
  rw [if_neg (by omega), if_neg (by omega), h]
  exact ⟨rfl, rfl⟩

/-- the contract of Mul -/
theorem mul_any (a b : Int) (ha : -9223372036854775808 ≤ a ∧ a ≤ 9223372036854775807) (hb : -9223372036854775808 ≤ b ∧ b ≤ 9223372036854775807) (w : World) :
    Calls Try.prog 16 #[.int .i64 a, .int .i64 b] w fun e w' => e = .returned (.tuple #[.int .i64 (ovV (a * b)), errv (ovE (a * b))]) ∧ ∃ n, w' = World.drewN w n := by
  go_enter Try.func16, Try.ntmps16
  go_wp2_with fail
  refine (mulDiv_any a b 1 1 ha hb (by omega) _).mono ?_
  rintro e w' ⟨rfl, n, rfl⟩
  rw [(mul_num a b).1, (mul_num a b).2]
  go_wp2_with fail
  go_ret2
  exact ⟨rfl, _, rfl⟩
end Go.Proofs.Ytheplpfhgifkcaa
