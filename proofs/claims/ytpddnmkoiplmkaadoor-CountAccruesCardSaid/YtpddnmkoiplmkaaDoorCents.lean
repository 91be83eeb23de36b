/- The contracts of package cents. -/
import Derived.Test.YtpddnmkoiplmkaaDoorErr
import Derived.Test.YtpddnmkoiplmkaaDoorInts
import Derived.Test.YtpddnmkoiplmkaaDoorRnd
import Derived.Test.YtpddnmkoiplmkaaDoorDiv
import Derived.WalkKit
import Derived.ProofKit
import Derived.LoopTactic
import Derived.Deep.QuietTactic
import Derived.BigQuiet
import Derived.Lib.Hide
import Derived.Deep.Draws
namespace Go.Proofs.YtpddnmkoiplmkaaDoor
open Go Go.RowKit
set_option linter.unusedVariables false

theorem ret2 {a b : Int} {k j : Int} (h : a = b) (g : errv k = errv j) : Ending.returned (.tuple #[.int .i64 a, errv k]) = .returned (.tuple #[.int .i64 b, errv j]) := by rw [h, g]

theorem wrapU (a : Int) : IntKind.u64.wrap a = a % 18446744073709551616 := IntKind.wrap_u64 a

theorem ret1 {k : IntKind} {a b : Int} (h : a = b) : Ending.returned (.int k a) = .returned (.int k b) := by rw [h]

theorem mag_any (a : Int) (ha : -9223372036854775808 ≤ a ∧ a ≤ 9223372036854775807) (w : World) :
    Calls Tryd.prog 33 #[.int .i64 a] w fun e w' => e = .returned (.int .u64 (mag a)) ∧ w' = w := by
  by_cases c : a < 0
  · go_enter Tryd.func33, Tryd.ntmps33
    go_wp2
    go_ret
    exact ⟨ret1 (by unfold mag; rw [if_pos c, wrapU, wrapU]; omega), rfl⟩
  · go_enter Tryd.func33, Tryd.ntmps33
    go_wp2
    go_ret
    exact ⟨ret1 (by unfold mag; rw [if_neg (by omega)]), rfl⟩

theorem retb {a b : Bool} (h : a = b) : Ending.returned (.bool a) = .returned (.bool b) := by rw [h]

set_option maxHeartbeats 400000 in
theorem away_any (q r c m : Int) (neg : Bool) (hq : 0 ≤ q) (hq' : q ≤ 9223372036854775808) (hr : 0 ≤ r) (hr' : r < c) (hc : c ≤ 9223372036854775808) (hm : 1 ≤ m ∧ m ≤ 4) (w : World) :
    Calls Tryd.prog 36 #[.int .u64 q, .int .u64 r, .int .u64 c, .bool neg, .int .i64 m] w fun e w' => e = .returned (.bool (awayB q r c neg m)) ∧ w' = w := by
  have : m = 1 ∨ m = 2 ∨ m = 3 ∨ m = 4 := by omega
  rcases this with rfl | rfl | rfl | rfl
  · cases neg
    all_goals
      go_enter Tryd.func36, Tryd.ntmps36
      go_wp2
      go_ret
      exact ⟨retb (by simp [awayB]), rfl⟩
  · cases neg
    all_goals
      go_enter Tryd.func36, Tryd.ntmps36
      go_wp2
      go_ret
      exact ⟨retb (by simp [awayB]), rfl⟩
  · go_enter Tryd.func36, Tryd.ntmps36
    go_wp2
    go_ret
    exact ⟨retb (by simp [awayB]), rfl⟩
  · by_cases c1 : c - r < r
    · go_enter Tryd.func36, Tryd.ntmps36
      go_wp2
      go_ret
      exact ⟨retb (by simp [awayB, c1]), rfl⟩
    · by_cases c2 : r = c - r
      · have c3 : (r == c - r) = true := by simpa using c2
        have H := Lib.hid c2
        clear c2
        go_enter Tryd.func36, Tryd.ntmps36
        go_wp2
        go_ret
        exact ⟨retb (by have := H.out; simp [awayB, ← this]; rfl), rfl⟩
      · have c3 : (r == c - r) = false := by simpa using c2
        go_enter Tryd.func36, Tryd.ntmps36
        go_wp2
        go_ret
        exact ⟨retb (by simp [awayB, c1, c2]), rfl⟩

theorem signed_any (q : Int) (neg : Bool) (hq : 0 ≤ q) (hq' : q ≤ 18446744073709551615) (w : World) :
    Calls Tryd.prog 37 #[.int .u64 q, .bool neg] w fun e w' => e = .returned (.tuple #[.int .i64 (ovV (if neg then -q else q)), errv (ovE (if neg then -q else q))]) ∧ w' = w := by
  cases neg
  · simp only [Bool.false_eq_true, if_false]
    by_cases h : q ≤ 9223372036854775807
    · obtain ⟨h1, h2⟩ := ov_in (n := q) ⟨by omega, h⟩
      rw [h1, h2, errv_0]
      clear h1 h2
      have c : ¬ 9223372036854775808 ≤ q := by omega
      go_enter Tryd.func37, Tryd.ntmps37
      go_wp2
      go_ret2
      exact ⟨rfl, rfl⟩
    · obtain ⟨h1, h2⟩ := ov_out (n := q) (by omega)
      rw [h1, h2, errv_3]
      clear h1 h2
      have c : 9223372036854775808 ≤ q := by omega
      go_enter Tryd.func37, Tryd.ntmps37
      go_wp2
      go_ret2
      exact ⟨rfl, rfl⟩
  · simp only [if_true]
    by_cases h : q ≤ 9223372036854775808
    · obtain ⟨h1, h2⟩ := ov_in (n := -q) (by omega)
      rw [h1, h2, errv_0]
      clear h1 h2
      have c : ¬ 9223372036854775808 < q := by omega
      have e : wrap64 (IntKind.u64.wrap (-q)) = -q := by unfold wrap64; rw [wrapU]; omega
      go_enter Tryd.func37, Tryd.ntmps37
      go_wp2
      go_ret2
      exact ⟨rfl, rfl⟩
    · obtain ⟨h1, h2⟩ := ov_out (n := -q) (by omega)
      rw [h1, h2, errv_3]
      clear h1 h2
      have c : 9223372036854775808 < q := by omega
      go_enter Tryd.func37, Tryd.ntmps37
      go_wp2
      go_ret2
      exact ⟨rfl, rfl⟩

end Go.Proofs.YtpddnmkoiplmkaaDoor
