/- The walk of CentsNear: down is never above up, and at most 1 below. -/
import Derived.Test.YtheplpfhgifkcaaCentsThree
import Derived.Test.YtheplpfhgifkcaaMul
namespace Go.Proofs.Ytheplpfhgifkcaa
open Go Go.RowKit
set_option linter.unusedVariables false

theorem mul_is (a b v k : Int) (ha : -9223372036854775808 ≤ a ∧ a ≤ 9223372036854775807) (hb : -9223372036854775808 ≤ b ∧ b ≤ 9223372036854775807)
    (hv : ovV (a * b) = v) (hk : ovE (a * b) = k) (w : World) :
    Calls Try.prog 16 #[.int .i64 a, .int .i64 b] w fun e w' => e = .returned (.tuple #[.int .i64 v, errv k]) ∧ ∃ n, w' = World.drewN w n := by
  rw [← hv, ← hk]; exact mul_any a b ha hb w

set_option maxHeartbeats 1000000 in
theorem near_arg (a b c d u n v p k2 k3 k4 kp : Int) (ha : -9223372036854775808 ≤ a ∧ a ≤ 9223372036854775807) (hb : -9223372036854775808 ≤ b ∧ b ≤ 9223372036854775807)
    (hc : -9223372036854775808 ≤ c ∧ c ≤ 9223372036854775807) (hp : kp = 0 ∨ kp = 3)
    (e1 : Hid (mdV a b c 1 = d ∧ mdE a b c 1 = 1)) (e2 : Hid (mdV a b c 2 = u ∧ mdE a b c 2 = k2)) (e3 : Hid (mdV a b c 3 = n ∧ mdE a b c 3 = k3)) (e4 : Hid (mdV a b c 4 = v ∧ mdE a b c 4 = k4))
    (e5 : Hid (mdV a b 1 3 = p ∧ mdE a b 1 3 = kp)) (e6 : Hid (ovV (a * b) = p ∧ ovE (a * b) = kp)) (w : World) :
    Calls Try.prog 6 #[.int .i64 a, .int .i64 b, .int .i64 c] w fun e w' => e = .returned (.bool true) ∧ ∃ n, w' = World.drewN w n := by
  rcases hp with rfl | rfl
  · go_enter Try.func6, Try.ntmps6
    go_wp2_with fail
    refine (up_any _).mono ?_
    rintro e w' ⟨rfl, n0, rfl⟩
    go_wp2_with fail
    refine (mulDiv_is a b c 1 _ _ ha hb hc e1.out.1 e1.out.2 _).mono ?_
    rintro e w' ⟨rfl, n1, rfl⟩
    rw [errv_1]
    go_wp2_with fail
    refine (mulDiv_is a b c 2 _ _ ha hb hc e2.out.1 e2.out.2 _).mono ?_
    rintro e w' ⟨rfl, n2, rfl⟩
    go_wp2_with fail
    refine (mulDiv_is a b c 3 _ _ ha hb hc e3.out.1 e3.out.2 _).mono ?_
    rintro e w' ⟨rfl, n3, rfl⟩
    go_wp2_with fail
    refine (mulDiv_is a b c 4 _ _ ha hb hc e4.out.1 e4.out.2 _).mono ?_
    rintro e w' ⟨rfl, n4, rfl⟩
    go_wp2_with fail
    refine (mulDiv_is a b 1 3 _ _ ha hb (by omega) e5.out.1 e5.out.2 _).mono ?_
    rintro e w' ⟨rfl, n5, rfl⟩
    rw [errv_0]
    go_wp2_with fail
    refine (mul_is a b _ _ ha hb e6.out.1 e6.out.2 _).mono ?_
    rintro e w' ⟨rfl, n6, rfl⟩
    rw [errv_0]
    go_wp2_with fail
    go_quiet (fail)
    go_wp2_with fail
    go_ret
    refine ⟨by simp, ?_⟩
    first | exact ⟨_, rfl⟩ | exact ⟨_, World.drewN_drewN _ _ _⟩
  · go_enter Try.func6, Try.ntmps6
    go_wp2_with fail
    refine (up_any _).mono ?_
    rintro e w' ⟨rfl, n0, rfl⟩
    go_wp2_with fail
    refine (mulDiv_is a b c 1 _ _ ha hb hc e1.out.1 e1.out.2 _).mono ?_
    rintro e w' ⟨rfl, n1, rfl⟩
    rw [errv_1]
    go_wp2_with fail
    refine (mulDiv_is a b c 2 _ _ ha hb hc e2.out.1 e2.out.2 _).mono ?_
    rintro e w' ⟨rfl, n2, rfl⟩
    go_wp2_with fail
    refine (mulDiv_is a b c 3 _ _ ha hb hc e3.out.1 e3.out.2 _).mono ?_
    rintro e w' ⟨rfl, n3, rfl⟩
    go_wp2_with fail
    refine (mulDiv_is a b c 4 _ _ ha hb hc e4.out.1 e4.out.2 _).mono ?_
    rintro e w' ⟨rfl, n4, rfl⟩
    go_wp2_with fail
    refine (mulDiv_is a b 1 3 _ _ ha hb (by omega) e5.out.1 e5.out.2 _).mono ?_
    rintro e w' ⟨rfl, n5, rfl⟩
    rw [errv_3]
    go_wp2_with fail
    refine (mul_is a b _ _ ha hb e6.out.1 e6.out.2 _).mono ?_
    rintro e w' ⟨rfl, n6, rfl⟩
    rw [errv_3]
    go_wp2_with fail
    go_quiet (fail)
    go_wp2_with fail
    go_ret
    refine ⟨by simp, ?_⟩
    first | exact ⟨_, rfl⟩ | exact ⟨_, World.drewN_drewN _ _ _⟩

set_option maxHeartbeats 1000000 in
theorem near_e (a b c d u n v p k2 k3 k4 kp : Int) (ha : -9223372036854775808 ≤ a ∧ a ≤ 9223372036854775807) (hb : -9223372036854775808 ≤ b ∧ b ≤ 9223372036854775807)
    (hc : -9223372036854775808 ≤ c ∧ c ≤ 9223372036854775807) (hp : kp = 0 ∨ kp = 3)
    (e1 : Hid (mdV a b c 1 = d ∧ mdE a b c 1 = 3)) (e2 : Hid (mdV a b c 2 = u ∧ mdE a b c 2 = k2)) (e3 : Hid (mdV a b c 3 = n ∧ mdE a b c 3 = k3)) (e4 : Hid (mdV a b c 4 = v ∧ mdE a b c 4 = k4))
    (e5 : Hid (mdV a b 1 3 = p ∧ mdE a b 1 3 = kp)) (e6 : Hid (ovV (a * b) = p ∧ ovE (a * b) = kp)) (w : World) :
    Calls Try.prog 6 #[.int .i64 a, .int .i64 b, .int .i64 c] w fun e w' => e = .returned (.bool true) ∧ ∃ n, w' = World.drewN w n := by
  rcases hp with rfl | rfl
  · go_enter Try.func6, Try.ntmps6
    go_wp2_with fail
    refine (up_any _).mono ?_
    rintro e w' ⟨rfl, n0, rfl⟩
    go_wp2_with fail
    refine (mulDiv_is a b c 1 _ _ ha hb hc e1.out.1 e1.out.2 _).mono ?_
    rintro e w' ⟨rfl, n1, rfl⟩
    rw [errv_3]
    go_wp2_with fail
    refine (mulDiv_is a b c 2 _ _ ha hb hc e2.out.1 e2.out.2 _).mono ?_
    rintro e w' ⟨rfl, n2, rfl⟩
    go_wp2_with fail
    refine (mulDiv_is a b c 3 _ _ ha hb hc e3.out.1 e3.out.2 _).mono ?_
    rintro e w' ⟨rfl, n3, rfl⟩
    go_wp2_with fail
    refine (mulDiv_is a b c 4 _ _ ha hb hc e4.out.1 e4.out.2 _).mono ?_
    rintro e w' ⟨rfl, n4, rfl⟩
    go_wp2_with fail
    refine (mulDiv_is a b 1 3 _ _ ha hb (by omega) e5.out.1 e5.out.2 _).mono ?_
    rintro e w' ⟨rfl, n5, rfl⟩
    rw [errv_0]
    go_wp2_with fail
    refine (mul_is a b _ _ ha hb e6.out.1 e6.out.2 _).mono ?_
    rintro e w' ⟨rfl, n6, rfl⟩
    rw [errv_0]
    go_wp2_with fail
    go_quiet (fail)
    go_wp2_with fail
    go_ret
    refine ⟨by simp, ?_⟩
    first | exact ⟨_, rfl⟩ | exact ⟨_, World.drewN_drewN _ _ _⟩
  · go_enter Try.func6, Try.ntmps6
    go_wp2_with fail
    refine (up_any _).mono ?_
    rintro e w' ⟨rfl, n0, rfl⟩
    go_wp2_with fail
    refine (mulDiv_is a b c 1 _ _ ha hb hc e1.out.1 e1.out.2 _).mono ?_
    rintro e w' ⟨rfl, n1, rfl⟩
    rw [errv_3]
    go_wp2_with fail
    refine (mulDiv_is a b c 2 _ _ ha hb hc e2.out.1 e2.out.2 _).mono ?_
    rintro e w' ⟨rfl, n2, rfl⟩
    go_wp2_with fail
    refine (mulDiv_is a b c 3 _ _ ha hb hc e3.out.1 e3.out.2 _).mono ?_
    rintro e w' ⟨rfl, n3, rfl⟩
    go_wp2_with fail
    refine (mulDiv_is a b c 4 _ _ ha hb hc e4.out.1 e4.out.2 _).mono ?_
    rintro e w' ⟨rfl, n4, rfl⟩
    go_wp2_with fail
    refine (mulDiv_is a b 1 3 _ _ ha hb (by omega) e5.out.1 e5.out.2 _).mono ?_
    rintro e w' ⟨rfl, n5, rfl⟩
    rw [errv_3]
    go_wp2_with fail
    refine (mul_is a b _ _ ha hb e6.out.1 e6.out.2 _).mono ?_
    rintro e w' ⟨rfl, n6, rfl⟩
    rw [errv_3]
    go_wp2_with fail
    go_quiet (fail)
    go_wp2_with fail
    go_ret
    refine ⟨by simp, ?_⟩
    first | exact ⟨_, rfl⟩ | exact ⟨_, World.drewN_drewN _ _ _⟩

set_option maxHeartbeats 1000000 in
theorem near_f (a b c d u n v p k2 k3 k4 kp : Int) (ha : -9223372036854775808 ≤ a ∧ a ≤ 9223372036854775807) (hb : -9223372036854775808 ≤ b ∧ b ≤ 9223372036854775807)
    (hc : -9223372036854775808 ≤ c ∧ c ≤ 9223372036854775807) (hp : kp = 0 ∨ kp = 3)
    (e1 : Hid (mdV a b c 1 = d ∧ mdE a b c 1 = 0)) (e2 : Hid (mdV a b c 2 = u ∧ mdE a b c 2 = 3)) (e3 : Hid (mdV a b c 3 = n ∧ mdE a b c 3 = k3)) (e4 : Hid (mdV a b c 4 = v ∧ mdE a b c 4 = k4))
    (e5 : Hid (mdV a b 1 3 = p ∧ mdE a b 1 3 = kp)) (e6 : Hid (ovV (a * b) = p ∧ ovE (a * b) = kp)) (w : World) :
    Calls Try.prog 6 #[.int .i64 a, .int .i64 b, .int .i64 c] w fun e w' => e = .returned (.bool true) ∧ ∃ n, w' = World.drewN w n := by
  rcases hp with rfl | rfl
  · go_enter Try.func6, Try.ntmps6
    go_wp2_with fail
    refine (up_any _).mono ?_
    rintro e w' ⟨rfl, n0, rfl⟩
    go_wp2_with fail
    refine (mulDiv_is a b c 1 _ _ ha hb hc e1.out.1 e1.out.2 _).mono ?_
    rintro e w' ⟨rfl, n1, rfl⟩
    rw [errv_0]
    go_wp2_with fail
    refine (mulDiv_is a b c 2 _ _ ha hb hc e2.out.1 e2.out.2 _).mono ?_
    rintro e w' ⟨rfl, n2, rfl⟩
    rw [errv_3]
    go_wp2_with fail
    refine (mulDiv_is a b c 3 _ _ ha hb hc e3.out.1 e3.out.2 _).mono ?_
    rintro e w' ⟨rfl, n3, rfl⟩
    go_wp2_with fail
    refine (mulDiv_is a b c 4 _ _ ha hb hc e4.out.1 e4.out.2 _).mono ?_
    rintro e w' ⟨rfl, n4, rfl⟩
    go_wp2_with fail
    refine (mulDiv_is a b 1 3 _ _ ha hb (by omega) e5.out.1 e5.out.2 _).mono ?_
    rintro e w' ⟨rfl, n5, rfl⟩
    rw [errv_0]
    go_wp2_with fail
    refine (mul_is a b _ _ ha hb e6.out.1 e6.out.2 _).mono ?_
    rintro e w' ⟨rfl, n6, rfl⟩
    rw [errv_0]
    go_wp2_with fail
    go_quiet (fail)
    go_wp2_with fail
    go_ret
    refine ⟨by simp, ?_⟩
    first | exact ⟨_, rfl⟩ | exact ⟨_, World.drewN_drewN _ _ _⟩
  · go_enter Try.func6, Try.ntmps6
    go_wp2_with fail
    refine (up_any _).mono ?_
    rintro e w' ⟨rfl, n0, rfl⟩
    go_wp2_with fail
    refine (mulDiv_is a b c 1 _ _ ha hb hc e1.out.1 e1.out.2 _).mono ?_
    rintro e w' ⟨rfl, n1, rfl⟩
    rw [errv_0]
    go_wp2_with fail
    refine (mulDiv_is a b c 2 _ _ ha hb hc e2.out.1 e2.out.2 _).mono ?_
    rintro e w' ⟨rfl, n2, rfl⟩
    rw [errv_3]
    go_wp2_with fail
    refine (mulDiv_is a b c 3 _ _ ha hb hc e3.out.1 e3.out.2 _).mono ?_
    rintro e w' ⟨rfl, n3, rfl⟩
    go_wp2_with fail
    refine (mulDiv_is a b c 4 _ _ ha hb hc e4.out.1 e4.out.2 _).mono ?_
    rintro e w' ⟨rfl, n4, rfl⟩
    go_wp2_with fail
    refine (mulDiv_is a b 1 3 _ _ ha hb (by omega) e5.out.1 e5.out.2 _).mono ?_
    rintro e w' ⟨rfl, n5, rfl⟩
    rw [errv_3]
    go_wp2_with fail
    refine (mul_is a b _ _ ha hb e6.out.1 e6.out.2 _).mono ?_
    rintro e w' ⟨rfl, n6, rfl⟩
    rw [errv_3]
    go_wp2_with fail
    go_quiet (fail)
    go_wp2_with fail
    go_ret
    refine ⟨by simp, ?_⟩
    first | exact ⟨_, rfl⟩ | exact ⟨_, World.drewN_drewN _ _ _⟩

set_option maxHeartbeats 1000000 in
theorem near_same (a b c d u n v p k2 k3 k4 kp : Int) (ha : -9223372036854775808 ≤ a ∧ a ≤ 9223372036854775807) (hb : -9223372036854775808 ≤ b ∧ b ≤ 9223372036854775807)
    (hc : -9223372036854775808 ≤ c ∧ c ≤ 9223372036854775807) (hp : kp = 0 ∨ kp = 3)
    (e1 : Hid (mdV a b c 1 = d ∧ mdE a b c 1 = 0)) (e2 : Hid (mdV a b c 2 = d ∧ mdE a b c 2 = 0)) (e3 : Hid (mdV a b c 3 = d ∧ mdE a b c 3 = 0)) (e4 : Hid (mdV a b c 4 = d ∧ mdE a b c 4 = 0))
    (e5 : Hid (mdV a b 1 3 = p ∧ mdE a b 1 3 = kp)) (e6 : Hid (ovV (a * b) = p ∧ ovE (a * b) = kp)) (w : World) :
    Calls Try.prog 6 #[.int .i64 a, .int .i64 b, .int .i64 c] w fun e w' => e = .returned (.bool true) ∧ ∃ n, w' = World.drewN w n := by
  rcases hp with rfl | rfl
  · go_enter Try.func6, Try.ntmps6
    go_wp2_with fail
    refine (up_any _).mono ?_
    rintro e w' ⟨rfl, n0, rfl⟩
    go_wp2_with fail
    refine (mulDiv_is a b c 1 _ _ ha hb hc e1.out.1 e1.out.2 _).mono ?_
    rintro e w' ⟨rfl, n1, rfl⟩
    rw [errv_0]
    go_wp2_with fail
    refine (mulDiv_is a b c 2 _ _ ha hb hc e2.out.1 e2.out.2 _).mono ?_
    rintro e w' ⟨rfl, n2, rfl⟩
    rw [errv_0]
    go_wp2_with fail
    refine (mulDiv_is a b c 3 _ _ ha hb hc e3.out.1 e3.out.2 _).mono ?_
    rintro e w' ⟨rfl, n3, rfl⟩
    rw [errv_0]
    go_wp2_with fail
    refine (mulDiv_is a b c 4 _ _ ha hb hc e4.out.1 e4.out.2 _).mono ?_
    rintro e w' ⟨rfl, n4, rfl⟩
    rw [errv_0]
    go_wp2_with fail
    refine (mulDiv_is a b 1 3 _ _ ha hb (by omega) e5.out.1 e5.out.2 _).mono ?_
    rintro e w' ⟨rfl, n5, rfl⟩
    rw [errv_0]
    go_wp2_with fail
    refine (mul_is a b _ _ ha hb e6.out.1 e6.out.2 _).mono ?_
    rintro e w' ⟨rfl, n6, rfl⟩
    rw [errv_0]
    go_wp2_with fail
    go_quiet (fail)
    go_wp2_with fail
    go_ret
    refine ⟨by simp, ?_⟩
    first | exact ⟨_, rfl⟩ | exact ⟨_, World.drewN_drewN _ _ _⟩
  · go_enter Try.func6, Try.ntmps6
    go_wp2_with fail
    refine (up_any _).mono ?_
    rintro e w' ⟨rfl, n0, rfl⟩
    go_wp2_with fail
    refine (mulDiv_is a b c 1 _ _ ha hb hc e1.out.1 e1.out.2 _).mono ?_
    rintro e w' ⟨rfl, n1, rfl⟩
    rw [errv_0]
    go_wp2_with fail
    refine (mulDiv_is a b c 2 _ _ ha hb hc e2.out.1 e2.out.2 _).mono ?_
    rintro e w' ⟨rfl, n2, rfl⟩
    rw [errv_0]
    go_wp2_with fail
    refine (mulDiv_is a b c 3 _ _ ha hb hc e3.out.1 e3.out.2 _).mono ?_
    rintro e w' ⟨rfl, n3, rfl⟩
    rw [errv_0]
    go_wp2_with fail
    refine (mulDiv_is a b c 4 _ _ ha hb hc e4.out.1 e4.out.2 _).mono ?_
    rintro e w' ⟨rfl, n4, rfl⟩
    rw [errv_0]
    go_wp2_with fail
    refine (mulDiv_is a b 1 3 _ _ ha hb (by omega) e5.out.1 e5.out.2 _).mono ?_
    rintro e w' ⟨rfl, n5, rfl⟩
    rw [errv_3]
    go_wp2_with fail
    refine (mul_is a b _ _ ha hb e6.out.1 e6.out.2 _).mono ?_
    rintro e w' ⟨rfl, n6, rfl⟩
    rw [errv_3]
    go_wp2_with fail
    go_quiet (fail)
    go_wp2_with fail
    go_ret
    refine ⟨by simp, ?_⟩
    first | exact ⟨_, rfl⟩ | exact ⟨_, World.drewN_drewN _ _ _⟩

set_option maxHeartbeats 1000000 in
theorem near_dd (a b c d u n v p k2 k3 k4 kp : Int) (ha : -9223372036854775808 ≤ a ∧ a ≤ 9223372036854775807) (hb : -9223372036854775808 ≤ b ∧ b ≤ 9223372036854775807)
    (hc : -9223372036854775808 ≤ c ∧ c ≤ 9223372036854775807) (hp : kp = 0 ∨ kp = 3)
    (e1 : Hid (mdV a b c 1 = d ∧ mdE a b c 1 = 0)) (e2 : Hid (mdV a b c 2 = (d + 1) ∧ mdE a b c 2 = 0)) (e3 : Hid (mdV a b c 3 = d ∧ mdE a b c 3 = 0)) (e4 : Hid (mdV a b c 4 = d ∧ mdE a b c 4 = 0))
    (e5 : Hid (mdV a b 1 3 = p ∧ mdE a b 1 3 = kp)) (e6 : Hid (ovV (a * b) = p ∧ ovE (a * b) = kp)) (hd : -9223372036854775808 ≤ d ∧ d + 1 ≤ 9223372036854775807) (w : World) :
    Calls Try.prog 6 #[.int .i64 a, .int .i64 b, .int .i64 c] w fun e w' => e = .returned (.bool true) ∧ ∃ n, w' = World.drewN w n := by
  rcases hp with rfl | rfl
  · go_enter Try.func6, Try.ntmps6
    go_wp2_with fail
    refine (up_any _).mono ?_
    rintro e w' ⟨rfl, n0, rfl⟩
    go_wp2_with fail
    refine (mulDiv_is a b c 1 _ _ ha hb hc e1.out.1 e1.out.2 _).mono ?_
    rintro e w' ⟨rfl, n1, rfl⟩
    rw [errv_0]
    go_wp2_with fail
    refine (mulDiv_is a b c 2 _ _ ha hb hc e2.out.1 e2.out.2 _).mono ?_
    rintro e w' ⟨rfl, n2, rfl⟩
    rw [errv_0]
    go_wp2_with fail
    refine (mulDiv_is a b c 3 _ _ ha hb hc e3.out.1 e3.out.2 _).mono ?_
    rintro e w' ⟨rfl, n3, rfl⟩
    rw [errv_0]
    go_wp2_with fail
    refine (mulDiv_is a b c 4 _ _ ha hb hc e4.out.1 e4.out.2 _).mono ?_
    rintro e w' ⟨rfl, n4, rfl⟩
    rw [errv_0]
    go_wp2_with fail
    refine (mulDiv_is a b 1 3 _ _ ha hb (by omega) e5.out.1 e5.out.2 _).mono ?_
    rintro e w' ⟨rfl, n5, rfl⟩
    rw [errv_0]
    go_wp2_with fail
    refine (mul_is a b _ _ ha hb e6.out.1 e6.out.2 _).mono ?_
    rintro e w' ⟨rfl, n6, rfl⟩
    rw [errv_0]
    go_wp2_with fail
    go_quiet (fail)
    go_wp2_with fail
    go_ret
    refine ⟨by simp, ?_⟩
    first | exact ⟨_, rfl⟩ | exact ⟨_, World.drewN_drewN _ _ _⟩
  · go_enter Try.func6, Try.ntmps6
    go_wp2_with fail
    refine (up_any _).mono ?_
    rintro e w' ⟨rfl, n0, rfl⟩
    go_wp2_with fail
    refine (mulDiv_is a b c 1 _ _ ha hb hc e1.out.1 e1.out.2 _).mono ?_
    rintro e w' ⟨rfl, n1, rfl⟩
    rw [errv_0]
    go_wp2_with fail
    refine (mulDiv_is a b c 2 _ _ ha hb hc e2.out.1 e2.out.2 _).mono ?_
    rintro e w' ⟨rfl, n2, rfl⟩
    rw [errv_0]
    go_wp2_with fail
    refine (mulDiv_is a b c 3 _ _ ha hb hc e3.out.1 e3.out.2 _).mono ?_
    rintro e w' ⟨rfl, n3, rfl⟩
    rw [errv_0]
    go_wp2_with fail
    refine (mulDiv_is a b c 4 _ _ ha hb hc e4.out.1 e4.out.2 _).mono ?_
    rintro e w' ⟨rfl, n4, rfl⟩
    rw [errv_0]
    go_wp2_with fail
    refine (mulDiv_is a b 1 3 _ _ ha hb (by omega) e5.out.1 e5.out.2 _).mono ?_
    rintro e w' ⟨rfl, n5, rfl⟩
    rw [errv_3]
    go_wp2_with fail
    refine (mul_is a b _ _ ha hb e6.out.1 e6.out.2 _).mono ?_
    rintro e w' ⟨rfl, n6, rfl⟩
    rw [errv_3]
    go_wp2_with fail
    go_quiet (fail)
    go_wp2_with fail
    go_ret
    refine ⟨by simp, ?_⟩
    first | exact ⟨_, rfl⟩ | exact ⟨_, World.drewN_drewN _ _ _⟩

set_option maxHeartbeats 1000000 in
theorem near_du (a b c d u n v p k2 k3 k4 kp : Int) (ha : -9223372036854775808 ≤ a ∧ a ≤ 9223372036854775807) (hb : -9223372036854775808 ≤ b ∧ b ≤ 9223372036854775807)
    (hc : -9223372036854775808 ≤ c ∧ c ≤ 9223372036854775807) (hp : kp = 0 ∨ kp = 3)
    (e1 : Hid (mdV a b c 1 = d ∧ mdE a b c 1 = 0)) (e2 : Hid (mdV a b c 2 = (d + 1) ∧ mdE a b c 2 = 0)) (e3 : Hid (mdV a b c 3 = d ∧ mdE a b c 3 = 0)) (e4 : Hid (mdV a b c 4 = (d + 1) ∧ mdE a b c 4 = 0))
    (e5 : Hid (mdV a b 1 3 = p ∧ mdE a b 1 3 = kp)) (e6 : Hid (ovV (a * b) = p ∧ ovE (a * b) = kp)) (hd : -9223372036854775808 ≤ d ∧ d + 1 ≤ 9223372036854775807) (w : World) :
    Calls Try.prog 6 #[.int .i64 a, .int .i64 b, .int .i64 c] w fun e w' => e = .returned (.bool true) ∧ ∃ n, w' = World.drewN w n := by
  rcases hp with rfl | rfl
  · go_enter Try.func6, Try.ntmps6
    go_wp2_with fail
    refine (up_any _).mono ?_
    rintro e w' ⟨rfl, n0, rfl⟩
    go_wp2_with fail
    refine (mulDiv_is a b c 1 _ _ ha hb hc e1.out.1 e1.out.2 _).mono ?_
    rintro e w' ⟨rfl, n1, rfl⟩
    rw [errv_0]
    go_wp2_with fail
    refine (mulDiv_is a b c 2 _ _ ha hb hc e2.out.1 e2.out.2 _).mono ?_
    rintro e w' ⟨rfl, n2, rfl⟩
    rw [errv_0]
    go_wp2_with fail
    refine (mulDiv_is a b c 3 _ _ ha hb hc e3.out.1 e3.out.2 _).mono ?_
    rintro e w' ⟨rfl, n3, rfl⟩
    rw [errv_0]
    go_wp2_with fail
    refine (mulDiv_is a b c 4 _ _ ha hb hc e4.out.1 e4.out.2 _).mono ?_
    rintro e w' ⟨rfl, n4, rfl⟩
    rw [errv_0]
    go_wp2_with fail
    refine (mulDiv_is a b 1 3 _ _ ha hb (by omega) e5.out.1 e5.out.2 _).mono ?_
    rintro e w' ⟨rfl, n5, rfl⟩
    rw [errv_0]
    go_wp2_with fail
    refine (mul_is a b _ _ ha hb e6.out.1 e6.out.2 _).mono ?_
    rintro e w' ⟨rfl, n6, rfl⟩
    rw [errv_0]
    go_wp2_with fail
    go_quiet (fail)
    go_wp2_with fail
    go_ret
    refine ⟨by simp, ?_⟩
    first | exact ⟨_, rfl⟩ | exact ⟨_, World.drewN_drewN _ _ _⟩
  · go_enter Try.func6, Try.ntmps6
    go_wp2_with fail
    refine (up_any _).mono ?_
    rintro e w' ⟨rfl, n0, rfl⟩
    go_wp2_with fail
    refine (mulDiv_is a b c 1 _ _ ha hb hc e1.out.1 e1.out.2 _).mono ?_
    rintro e w' ⟨rfl, n1, rfl⟩
    rw [errv_0]
    go_wp2_with fail
    refine (mulDiv_is a b c 2 _ _ ha hb hc e2.out.1 e2.out.2 _).mono ?_
    rintro e w' ⟨rfl, n2, rfl⟩
    rw [errv_0]
    go_wp2_with fail
    refine (mulDiv_is a b c 3 _ _ ha hb hc e3.out.1 e3.out.2 _).mono ?_
    rintro e w' ⟨rfl, n3, rfl⟩
    rw [errv_0]
    go_wp2_with fail
    refine (mulDiv_is a b c 4 _ _ ha hb hc e4.out.1 e4.out.2 _).mono ?_
    rintro e w' ⟨rfl, n4, rfl⟩
    rw [errv_0]
    go_wp2_with fail
    refine (mulDiv_is a b 1 3 _ _ ha hb (by omega) e5.out.1 e5.out.2 _).mono ?_
    rintro e w' ⟨rfl, n5, rfl⟩
    rw [errv_3]
    go_wp2_with fail
    refine (mul_is a b _ _ ha hb e6.out.1 e6.out.2 _).mono ?_
    rintro e w' ⟨rfl, n6, rfl⟩
    rw [errv_3]
    go_wp2_with fail
    go_quiet (fail)
    go_wp2_with fail
    go_ret
    refine ⟨by simp, ?_⟩
    first | exact ⟨_, rfl⟩ | exact ⟨_, World.drewN_drewN _ _ _⟩

set_option maxHeartbeats 1000000 in
theorem near_ud (a b c d u n v p k2 k3 k4 kp : Int) (ha : -9223372036854775808 ≤ a ∧ a ≤ 9223372036854775807) (hb : -9223372036854775808 ≤ b ∧ b ≤ 9223372036854775807)
    (hc : -9223372036854775808 ≤ c ∧ c ≤ 9223372036854775807) (hp : kp = 0 ∨ kp = 3)
    (e1 : Hid (mdV a b c 1 = d ∧ mdE a b c 1 = 0)) (e2 : Hid (mdV a b c 2 = (d + 1) ∧ mdE a b c 2 = 0)) (e3 : Hid (mdV a b c 3 = (d + 1) ∧ mdE a b c 3 = 0)) (e4 : Hid (mdV a b c 4 = d ∧ mdE a b c 4 = 0))
    (e5 : Hid (mdV a b 1 3 = p ∧ mdE a b 1 3 = kp)) (e6 : Hid (ovV (a * b) = p ∧ ovE (a * b) = kp)) (hd : -9223372036854775808 ≤ d ∧ d + 1 ≤ 9223372036854775807) (w : World) :
    Calls Try.prog 6 #[.int .i64 a, .int .i64 b, .int .i64 c] w fun e w' => e = .returned (.bool true) ∧ ∃ n, w' = World.drewN w n := by
  rcases hp with rfl | rfl
  · go_enter Try.func6, Try.ntmps6
    go_wp2_with fail
    refine (up_any _).mono ?_
    rintro e w' ⟨rfl, n0, rfl⟩
    go_wp2_with fail
    refine (mulDiv_is a b c 1 _ _ ha hb hc e1.out.1 e1.out.2 _).mono ?_
    rintro e w' ⟨rfl, n1, rfl⟩
    rw [errv_0]
    go_wp2_with fail
    refine (mulDiv_is a b c 2 _ _ ha hb hc e2.out.1 e2.out.2 _).mono ?_
    rintro e w' ⟨rfl, n2, rfl⟩
    rw [errv_0]
    go_wp2_with fail
    refine (mulDiv_is a b c 3 _ _ ha hb hc e3.out.1 e3.out.2 _).mono ?_
    rintro e w' ⟨rfl, n3, rfl⟩
    rw [errv_0]
    go_wp2_with fail
    refine (mulDiv_is a b c 4 _ _ ha hb hc e4.out.1 e4.out.2 _).mono ?_
    rintro e w' ⟨rfl, n4, rfl⟩
    rw [errv_0]
    go_wp2_with fail
    refine (mulDiv_is a b 1 3 _ _ ha hb (by omega) e5.out.1 e5.out.2 _).mono ?_
    rintro e w' ⟨rfl, n5, rfl⟩
    rw [errv_0]
    go_wp2_with fail
    refine (mul_is a b _ _ ha hb e6.out.1 e6.out.2 _).mono ?_
    rintro e w' ⟨rfl, n6, rfl⟩
    rw [errv_0]
    go_wp2_with fail
    go_quiet (fail)
    go_wp2_with fail
    go_ret
    refine ⟨by simp, ?_⟩
    first | exact ⟨_, rfl⟩ | exact ⟨_, World.drewN_drewN _ _ _⟩
  · go_enter Try.func6, Try.ntmps6
    go_wp2_with fail
    refine (up_any _).mono ?_
    rintro e w' ⟨rfl, n0, rfl⟩
    go_wp2_with fail
    refine (mulDiv_is a b c 1 _ _ ha hb hc e1.out.1 e1.out.2 _).mono ?_
    rintro e w' ⟨rfl, n1, rfl⟩
    rw [errv_0]
    go_wp2_with fail
    refine (mulDiv_is a b c 2 _ _ ha hb hc e2.out.1 e2.out.2 _).mono ?_
    rintro e w' ⟨rfl, n2, rfl⟩
    rw [errv_0]
    go_wp2_with fail
    refine (mulDiv_is a b c 3 _ _ ha hb hc e3.out.1 e3.out.2 _).mono ?_
    rintro e w' ⟨rfl, n3, rfl⟩
    rw [errv_0]
    go_wp2_with fail
    refine (mulDiv_is a b c 4 _ _ ha hb hc e4.out.1 e4.out.2 _).mono ?_
    rintro e w' ⟨rfl, n4, rfl⟩
    rw [errv_0]
    go_wp2_with fail
    refine (mulDiv_is a b 1 3 _ _ ha hb (by omega) e5.out.1 e5.out.2 _).mono ?_
    rintro e w' ⟨rfl, n5, rfl⟩
    rw [errv_3]
    go_wp2_with fail
    refine (mul_is a b _ _ ha hb e6.out.1 e6.out.2 _).mono ?_
    rintro e w' ⟨rfl, n6, rfl⟩
    rw [errv_3]
    go_wp2_with fail
    go_quiet (fail)
    go_wp2_with fail
    go_ret
    refine ⟨by simp, ?_⟩
    first | exact ⟨_, rfl⟩ | exact ⟨_, World.drewN_drewN _ _ _⟩

set_option maxHeartbeats 1000000 in
theorem near_uu (a b c d u n v p k2 k3 k4 kp : Int) (ha : -9223372036854775808 ≤ a ∧ a ≤ 9223372036854775807) (hb : -9223372036854775808 ≤ b ∧ b ≤ 9223372036854775807)
    (hc : -9223372036854775808 ≤ c ∧ c ≤ 9223372036854775807) (hp : kp = 0 ∨ kp = 3)
    (e1 : Hid (mdV a b c 1 = d ∧ mdE a b c 1 = 0)) (e2 : Hid (mdV a b c 2 = (d + 1) ∧ mdE a b c 2 = 0)) (e3 : Hid (mdV a b c 3 = (d + 1) ∧ mdE a b c 3 = 0)) (e4 : Hid (mdV a b c 4 = (d + 1) ∧ mdE a b c 4 = 0))
    (e5 : Hid (mdV a b 1 3 = p ∧ mdE a b 1 3 = kp)) (e6 : Hid (ovV (a * b) = p ∧ ovE (a * b) = kp)) (hd : -9223372036854775808 ≤ d ∧ d + 1 ≤ 9223372036854775807) (w : World) :
    Calls Try.prog 6 #[.int .i64 a, .int .i64 b, .int .i64 c] w fun e w' => e = .returned (.bool true) ∧ ∃ n, w' = World.drewN w n := by
  rcases hp with rfl | rfl
  · go_enter Try.func6, Try.ntmps6
    go_wp2_with fail
    refine (up_any _).mono ?_
    rintro e w' ⟨rfl, n0, rfl⟩
    go_wp2_with fail
    refine (mulDiv_is a b c 1 _ _ ha hb hc e1.out.1 e1.out.2 _).mono ?_
    rintro e w' ⟨rfl, n1, rfl⟩
    rw [errv_0]
    go_wp2_with fail
    refine (mulDiv_is a b c 2 _ _ ha hb hc e2.out.1 e2.out.2 _).mono ?_
    rintro e w' ⟨rfl, n2, rfl⟩
    rw [errv_0]
    go_wp2_with fail
    refine (mulDiv_is a b c 3 _ _ ha hb hc e3.out.1 e3.out.2 _).mono ?_
    rintro e w' ⟨rfl, n3, rfl⟩
    rw [errv_0]
    go_wp2_with fail
    refine (mulDiv_is a b c 4 _ _ ha hb hc e4.out.1 e4.out.2 _).mono ?_
    rintro e w' ⟨rfl, n4, rfl⟩
    rw [errv_0]
    go_wp2_with fail
    refine (mulDiv_is a b 1 3 _ _ ha hb (by omega) e5.out.1 e5.out.2 _).mono ?_
    rintro e w' ⟨rfl, n5, rfl⟩
    rw [errv_0]
    go_wp2_with fail
    refine (mul_is a b _ _ ha hb e6.out.1 e6.out.2 _).mono ?_
    rintro e w' ⟨rfl, n6, rfl⟩
    rw [errv_0]
    go_wp2_with fail
    go_quiet (fail)
    go_wp2_with fail
    go_ret
    refine ⟨by simp, ?_⟩
    first | exact ⟨_, rfl⟩ | exact ⟨_, World.drewN_drewN _ _ _⟩
  · go_enter Try.func6, Try.ntmps6
    go_wp2_with fail
    refine (up_any _).mono ?_
    rintro e w' ⟨rfl, n0, rfl⟩
    go_wp2_with fail
    refine (mulDiv_is a b c 1 _ _ ha hb hc e1.out.1 e1.out.2 _).mono ?_
    rintro e w' ⟨rfl, n1, rfl⟩
    rw [errv_0]
    go_wp2_with fail
    refine (mulDiv_is a b c 2 _ _ ha hb hc e2.out.1 e2.out.2 _).mono ?_
    rintro e w' ⟨rfl, n2, rfl⟩
    rw [errv_0]
    go_wp2_with fail
    refine (mulDiv_is a b c 3 _ _ ha hb hc e3.out.1 e3.out.2 _).mono ?_
    rintro e w' ⟨rfl, n3, rfl⟩
    rw [errv_0]
    go_wp2_with fail
    refine (mulDiv_is a b c 4 _ _ ha hb hc e4.out.1 e4.out.2 _).mono ?_
    rintro e w' ⟨rfl, n4, rfl⟩
    rw [errv_0]
    go_wp2_with fail
    refine (mulDiv_is a b 1 3 _ _ ha hb (by omega) e5.out.1 e5.out.2 _).mono ?_
    rintro e w' ⟨rfl, n5, rfl⟩
    rw [errv_3]
    go_wp2_with fail
    refine (mul_is a b _ _ ha hb e6.out.1 e6.out.2 _).mono ?_
    rintro e w' ⟨rfl, n6, rfl⟩
    rw [errv_3]
    go_wp2_with fail
    go_quiet (fail)
    go_wp2_with fail
    go_ret
    refine ⟨by simp, ?_⟩
    first | exact ⟨_, rfl⟩ | exact ⟨_, World.drewN_drewN _ _ _⟩

theorem centsNear_walk (a b c : Int) (ha : -9223372036854775808 ≤ a ∧ a ≤ 9223372036854775807) (hb : -9223372036854775808 ≤ b ∧ b ≤ 9223372036854775807)
    (hc : -9223372036854775808 ≤ c ∧ c ≤ 9223372036854775807) (w : World) :
    Calls Try.prog 6 #[.int .i64 a, .int .i64 b, .int .i64 c] w fun e w' => e = .returned (.bool true) ∧ ∃ n, w' = World.drewN w n := by
  have e6 : Hid (ovV (a * b) = ovV (a * b) ∧ ovE (a * b) = ovE (a * b)) := ⟨rfl, rfl⟩
  have e5 : Hid (mdV a b 1 3 = ovV (a * b) ∧ mdE a b 1 3 = ovE (a * b)) := by
    unfold mdV mdE
    rw [if_neg (by omega), if_neg (by omega), rnd_one]
    exact ⟨rfl, rfl⟩
  have hp := ovE_values (a * b)
  by_cases c0 : c = 0
  · have e : ∀ m, mdV a b c m = 0 ∧ mdE a b c m = 1 := fun m => by unfold mdV mdE; rw [if_pos (Or.inl c0), if_pos (Or.inl c0)]; exact ⟨rfl, rfl⟩
    exact near_arg a b c 0 0 0 0 _ 1 1 1 _ ha hb hc hp (e 1) (e 2) (e 3) (e 4) e5 e6 w
  · have e : ∀ m, 1 ≤ m → m ≤ 4 → mdV a b c m = ovV (rnd m (a * b) c) ∧ mdE a b c m = ovE (rnd m (a * b) c) := fun m h1 h2 => by
      unfold mdV mdE; rw [if_neg (by omega), if_neg (by omega)]; exact ⟨rfl, rfl⟩
    obtain ⟨a1, b1⟩ := e 1 (by omega) (by omega)
    obtain ⟨a2, b2⟩ := e 2 (by omega) (by omega)
    obtain ⟨a3, b3⟩ := e 3 (by omega) (by omega)
    obtain ⟨a4, b4⟩ := e 4 (by omega) (by omega)
    obtain ⟨r1, r2, r3, r4⟩ := rnd_near (a * b) c
    generalize rnd 1 (a * b) c = D at *
    generalize rnd 2 (a * b) c = U at *
    generalize rnd 3 (a * b) c = N at *
    generalize rnd 4 (a * b) c = V at *
    by_cases i1 : -9223372036854775808 ≤ D ∧ D ≤ 9223372036854775807
    · rw [(ov_in i1).1] at a1
      rw [(ov_in i1).2] at b1
      by_cases i2 : -9223372036854775808 ≤ U ∧ U ≤ 9223372036854775807
      · rw [(ov_in i2).1] at a2
        rw [(ov_in i2).2] at b2
        rw [(ov_in (n := N) (by rcases r3 with h | h <;> rw [h] <;> assumption)).1] at a3
        rw [(ov_in (n := N) (by rcases r3 with h | h <;> rw [h] <;> assumption)).2] at b3
        rw [(ov_in (n := V) (by rcases r4 with h | h <;> rw [h] <;> assumption)).1] at a4
        rw [(ov_in (n := V) (by rcases r4 with h | h <;> rw [h] <;> assumption)).2] at b4
        rcases r2 with h | h
        · have hN : N = D := by omega
          have hV : V = D := by omega
          subst h hN hV
          exact near_same a b c _ 0 0 0 _ 0 0 0 _ ha hb hc hp ⟨a1, b1⟩ ⟨a2, b2⟩ ⟨a3, b3⟩ ⟨a4, b4⟩ e5 e6 w
        · subst h
          rcases r3 with h3 | h3 <;> rcases r4 with h4 | h4 <;> rw [h3] at a3 <;> rw [h4] at a4
          · exact near_dd a b c D 0 0 0 _ 0 0 0 _ ha hb hc hp ⟨a1, b1⟩ ⟨a2, b2⟩ ⟨a3, b3⟩ ⟨a4, b4⟩ e5 e6 (by omega) w
          · exact near_du a b c D 0 0 0 _ 0 0 0 _ ha hb hc hp ⟨a1, b1⟩ ⟨a2, b2⟩ ⟨a3, b3⟩ ⟨a4, b4⟩ e5 e6 (by omega) w
          · exact near_ud a b c D 0 0 0 _ 0 0 0 _ ha hb hc hp ⟨a1, b1⟩ ⟨a2, b2⟩ ⟨a3, b3⟩ ⟨a4, b4⟩ e5 e6 (by omega) w
          · exact near_uu a b c D 0 0 0 _ 0 0 0 _ ha hb hc hp ⟨a1, b1⟩ ⟨a2, b2⟩ ⟨a3, b3⟩ ⟨a4, b4⟩ e5 e6 (by omega) w
      · rw [(ov_out i2).1] at a2
        rw [(ov_out i2).2] at b2
        exact near_f a b c D 0 _ _ _ 0 _ _ _ ha hb hc hp ⟨a1, b1⟩ ⟨a2, b2⟩ ⟨a3, b3⟩ ⟨a4, b4⟩ e5 e6 w
    · rw [(ov_out i1).1] at a1
      rw [(ov_out i1).2] at b1
      exact near_e a b c 0 _ _ _ _ _ _ _ _ ha hb hc hp ⟨a1, b1⟩ ⟨a2, b2⟩ ⟨a3, b3⟩ ⟨a4, b4⟩ e5 e6 w
end Go.Proofs.Ytheplpfhgifkcaa
