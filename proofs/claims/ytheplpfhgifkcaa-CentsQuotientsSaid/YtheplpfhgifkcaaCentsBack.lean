/- The walk of CentsBack: what was added is taken away again. -/
import Derived.Test.YtheplpfhgifkcaaUp01
import Derived.Test.YtheplpfhgifkcaaAdd
namespace Go.Proofs.Ytheplpfhgifkcaa
open Go Go.RowKit
set_option linter.unusedVariables false

theorem add_is (a b v k : Int) (ha : -9223372036854775808 ≤ a ∧ a ≤ 9223372036854775807) (hb : -9223372036854775808 ≤ b ∧ b ≤ 9223372036854775807)
    (hv : ovV (a + b) = v) (hk : ovE (a + b) = k) (w : World) :
    Calls Try.prog 14 #[.int .i64 a, .int .i64 b] w fun e w' => e = .returned (.tuple #[.int .i64 v, errv k]) ∧ w' = w := by
  rw [← hv, ← hk]; exact add_any a b ha hb w
theorem sub_is (a b v k : Int) (ha : -9223372036854775808 ≤ a ∧ a ≤ 9223372036854775807) (hb : -9223372036854775808 ≤ b ∧ b ≤ 9223372036854775807)
    (hv : ovV (a - b) = v) (hk : ovE (a - b) = k) (w : World) :
    Calls Try.prog 15 #[.int .i64 a, .int .i64 b] w fun e w' => e = .returned (.tuple #[.int .i64 v, errv k]) ∧ w' = w := by
  rw [← hv, ← hk]; exact sub_any a b ha hb w

set_option maxHeartbeats 1000000 in
theorem centsBack_walk (a b : Int) (ha : -9223372036854775808 ≤ a ∧ a ≤ 9223372036854775807) (hb : -9223372036854775808 ≤ b ∧ b ≤ 9223372036854775807) (w : World) :
    Calls Try.prog 10 #[.int .i64 a, .int .i64 b] w fun e w' => e = .returned (.bool true) ∧ ∃ n, w' = World.drewN w n := by
  by_cases h1 : -9223372036854775808 ≤ a + b ∧ a + b ≤ 9223372036854775807
  · have e1 : Hid (ovV (a + b) = a + b ∧ ovE (a + b) = 0) := ov_in h1
    have e2 : Hid (ovV (a + b - b) = a ∧ ovE (a + b - b) = 0) := by
      have : a + b - b = a := by omega
      rw [this]; exact ov_in ha
    have ea : (a != a) = false := by simp
    by_cases h2 : -9223372036854775808 ≤ a - b ∧ a - b ≤ 9223372036854775807
    · have e3 : Hid (ovV (a - b) = a - b ∧ ovE (a - b) = 0) := ov_in h2
      have e4 : Hid (ovV (a - b + b) = a ∧ ovE (a - b + b) = 0) := by
        have : a - b + b = a := by omega
        rw [this]; exact ov_in ha
      go_enter Try.func10, Try.ntmps10
      go_wp2_with fail
      refine (up_any _).mono ?_
      rintro e w' ⟨rfl, n, rfl⟩
      go_wp2_with fail
      refine (add_is a b _ _ ha hb e1.out.1 e1.out.2 _).mono ?_
      rintro e w' ⟨rfl, rfl⟩
      rw [errv_0]
      go_wp2_with fail
      refine (sub_is (a + b) b _ _ h1 hb e2.out.1 e2.out.2 _).mono ?_
      rintro e w' ⟨rfl, rfl⟩
      rw [errv_0]
      go_wp2_with fail
      refine (sub_is a b _ _ ha hb e3.out.1 e3.out.2 _).mono ?_
      rintro e w' ⟨rfl, rfl⟩
      rw [errv_0]
      go_wp2_with fail
      refine (add_is (a - b) b _ _ h2 hb e4.out.1 e4.out.2 _).mono ?_
      rintro e w' ⟨rfl, rfl⟩
      rw [errv_0]
      go_wp2_with fail
      go_ret
      exact ⟨by simp, _, rfl⟩
    · have e3 : Hid (ovV (a - b) = 0 ∧ ovE (a - b) = 3) := ov_out h2
      go_enter Try.func10, Try.ntmps10
      go_wp2_with fail
      refine (up_any _).mono ?_
      rintro e w' ⟨rfl, n, rfl⟩
      go_wp2_with fail
      refine (add_is a b _ _ ha hb e1.out.1 e1.out.2 _).mono ?_
      rintro e w' ⟨rfl, rfl⟩
      rw [errv_0]
      go_wp2_with fail
      refine (sub_is (a + b) b _ _ h1 hb e2.out.1 e2.out.2 _).mono ?_
      rintro e w' ⟨rfl, rfl⟩
      rw [errv_0]
      go_wp2_with fail
      refine (sub_is a b _ _ ha hb e3.out.1 e3.out.2 _).mono ?_
      rintro e w' ⟨rfl, rfl⟩
      rw [errv_3]
      go_wp2_with fail
      go_ret
      exact ⟨by simp, _, rfl⟩
  · have e1 : Hid (ovV (a + b) = 0 ∧ ovE (a + b) = 3) := ov_out h1
    by_cases h2 : -9223372036854775808 ≤ a - b ∧ a - b ≤ 9223372036854775807
    · have e3 : Hid (ovV (a - b) = a - b ∧ ovE (a - b) = 0) := ov_in h2
      have e4 : Hid (ovV (a - b + b) = a ∧ ovE (a - b + b) = 0) := by
        have : a - b + b = a := by omega
        rw [this]; exact ov_in ha
      go_enter Try.func10, Try.ntmps10
      go_wp2_with fail
      refine (up_any _).mono ?_
      rintro e w' ⟨rfl, n, rfl⟩
      go_wp2_with fail
      refine (add_is a b _ _ ha hb e1.out.1 e1.out.2 _).mono ?_
      rintro e w' ⟨rfl, rfl⟩
      rw [errv_3]
      go_wp2_with fail
      refine (sub_is a b _ _ ha hb e3.out.1 e3.out.2 _).mono ?_
      rintro e w' ⟨rfl, rfl⟩
      rw [errv_0]
      go_wp2_with fail
      refine (add_is (a - b) b _ _ h2 hb e4.out.1 e4.out.2 _).mono ?_
      rintro e w' ⟨rfl, rfl⟩
      rw [errv_0]
      go_wp2_with fail
      go_ret
      exact ⟨by simp, _, rfl⟩
    · have e3 : Hid (ovV (a - b) = 0 ∧ ovE (a - b) = 3) := ov_out h2
      go_enter Try.func10, Try.ntmps10
      go_wp2_with fail
      refine (up_any _).mono ?_
      rintro e w' ⟨rfl, n, rfl⟩
      go_wp2_with fail
      refine (add_is a b _ _ ha hb e1.out.1 e1.out.2 _).mono ?_
      rintro e w' ⟨rfl, rfl⟩
      rw [errv_3]
      go_wp2_with fail
      refine (sub_is a b _ _ ha hb e3.out.1 e3.out.2 _).mono ?_
      rintro e w' ⟨rfl, rfl⟩
      rw [errv_3]
      go_wp2_with fail
      go_ret
      exact ⟨by simp, _, rfl⟩
end Go.Proofs.Ytheplpfhgifkcaa
