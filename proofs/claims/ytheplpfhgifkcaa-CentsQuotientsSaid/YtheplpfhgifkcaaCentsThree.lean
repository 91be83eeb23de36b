/- The walks of CentsSigns and CentsWhole. -/
import Derived.Test.YtheplpfhgifkcaaCentsBack
namespace Go.Proofs.Ytheplpfhgifkcaa
open Go Go.RowKit
set_option linter.unusedVariables false

theorem ovE_values (n : Int) : ovE n = 0 ∨ ovE n = 3 := by unfold ovE; split <;> simp
theorem mdE_values (a b c m : Int) : mdE a b c m = 0 ∨ mdE a b c m = 1 ∨ mdE a b c m = 3 := by
  unfold mdE
  split
  · simp
  · rcases ovE_values (rnd m (a * b) c) with h | h <;> simp [h]

set_option maxHeartbeats 1000000 in
theorem centsSigns_walk (a b c m : Int) (ha : -9223372036854775808 ≤ a ∧ a ≤ 9223372036854775807) (hb : -9223372036854775808 ≤ b ∧ b ≤ 9223372036854775807)
    (hc : -9223372036854775808 ≤ c ∧ c ≤ 9223372036854775807) (w : World) :
    Calls Try.prog 9 #[.int .i64 a, .int .i64 b, .int .i64 c, .int .i64 m] w fun e w' => e = .returned (.bool true) ∧ ∃ n, w' = World.drewN w n := by
  by_cases h1 : b = -9223372036854775808
  · have h1' : (b == -9223372036854775808) = true := by simpa using h1
    clear h1
    go_enter Try.func9, Try.ntmps9
    go_wp2_with fail
    refine (up_any _).mono ?_
    rintro e w' ⟨rfl, n, rfl⟩
    go_wp2_with fail
    go_ret
    exact ⟨rfl, _, rfl⟩
  · have h1' : (b == -9223372036854775808) = false := by simpa using h1
    by_cases h2 : c = -9223372036854775808
    · have h2' : (c == -9223372036854775808) = true := by simpa using h2
      clear h1 h2
      go_enter Try.func9, Try.ntmps9
      go_wp2_with fail
      refine (up_any _).mono ?_
      rintro e w' ⟨rfl, n, rfl⟩
      go_wp2_with fail
      go_ret
      exact ⟨rfl, _, rfl⟩
    · have h2' : (c == -9223372036854775808) = false := by simpa using h2
      obtain ⟨v, hv⟩ : ∃ v, mdV a b c m = v := ⟨_, rfl⟩
      obtain ⟨k, hk⟩ : ∃ k, mdE a b c m = k := ⟨_, rfl⟩
      have e1 : Hid (mdV a b c m = v ∧ mdE a b c m = k) := ⟨hv, hk⟩
      have e2 : Hid (mdV a (-b) (-c) m = v ∧ mdE a (-b) (-c) m = k) := by
        rw [← hv, ← hk]
        unfold mdV mdE
        by_cases hc0 : c = 0
        · simp [hc0, Hid]
        · have hc1 : -c ≠ 0 := by omega
          simp [hc0, hc1, Hid, rnd_signs _ _ _ _ hc0]
      have hb' : -9223372036854775808 < b := by omega
      have hc' : -9223372036854775808 < c := by omega
      clear hv hk h1 h2
      have hk := mdE_values a b c m
      rw [e1.out.2] at hk
      rcases hk with rfl | rfl | rfl
      · go_enter Try.func9, Try.ntmps9
        go_wp2_with fail
        refine (up_any _).mono ?_
        rintro e w' ⟨rfl, n, rfl⟩
        go_wp2_with fail
        refine (mulDiv_is a b c m _ _ ha hb hc e1.out.1 e1.out.2 _).mono ?_
        rintro e w' ⟨rfl, n, rfl⟩
        rw [errv_0]
        go_wp2_with fail
        refine (mulDiv_is a (-b) (-c) m _ _ ha (by omega) (by omega) e2.out.1 e2.out.2 _).mono ?_
        rintro e w' ⟨rfl, n, rfl⟩
        rw [errv_0]
        go_wp2_with fail
        go_quiet (fail)
        go_wp2_with fail
        go_ret
        exact ⟨by simp, _, World.drewN_drewN _ _ _⟩
      · go_enter Try.func9, Try.ntmps9
        go_wp2_with fail
        refine (up_any _).mono ?_
        rintro e w' ⟨rfl, n, rfl⟩
        go_wp2_with fail
        refine (mulDiv_is a b c m _ _ ha hb hc e1.out.1 e1.out.2 _).mono ?_
        rintro e w' ⟨rfl, n, rfl⟩
        rw [errv_1]
        go_wp2_with fail
        refine (mulDiv_is a (-b) (-c) m _ _ ha (by omega) (by omega) e2.out.1 e2.out.2 _).mono ?_
        rintro e w' ⟨rfl, n, rfl⟩
        rw [errv_1]
        go_wp2_with fail
        go_quiet (fail)
        go_wp2_with fail
        go_ret
        exact ⟨by simp, _, World.drewN_drewN _ _ _⟩
      · go_enter Try.func9, Try.ntmps9
        go_wp2_with fail
        refine (up_any _).mono ?_
        rintro e w' ⟨rfl, n, rfl⟩
        go_wp2_with fail
        refine (mulDiv_is a b c m _ _ ha hb hc e1.out.1 e1.out.2 _).mono ?_
        rintro e w' ⟨rfl, n, rfl⟩
        rw [errv_3]
        go_wp2_with fail
        refine (mulDiv_is a (-b) (-c) m _ _ ha (by omega) (by omega) e2.out.1 e2.out.2 _).mono ?_
        rintro e w' ⟨rfl, n, rfl⟩
        rw [errv_3]
        go_wp2_with fail
        go_quiet (fail)
        go_wp2_with fail
        go_ret
        exact ⟨by simp, _, World.drewN_drewN _ _ _⟩

set_option maxHeartbeats 1000000 in
theorem centsWhole_walk (a b m : Int) (ha : -9223372036854775808 ≤ a ∧ a ≤ 9223372036854775807) (hb : -9223372036854775808 ≤ b ∧ b ≤ 9223372036854775807) (w : World) :
    Calls Try.prog 11 #[.int .i64 a, .int .i64 b, .int .i64 m] w fun e w' => e = .returned (.bool true) ∧ ∃ n, w' = World.drewN w n := by
  by_cases h : b = 0 ∨ m < 1 ∨ 4 < m
  · have e1 : Hid (mdV a b b m = 0 ∧ mdE a b b m = 1) := by unfold mdV mdE; rw [if_pos h, if_pos h]; exact ⟨rfl, rfl⟩
    have r := fun w => run_eql_code w 1 1
    by_cases h1 : b = 0
    · have h1' : (b == 0) = true := by simpa using h1
      clear h h1
      go_enter Try.func11, Try.ntmps11
      go_wp2_with fail
      refine (up_any _).mono ?_
      rintro e w' ⟨rfl, n, rfl⟩
      go_wp2_with fail
      refine (mulDiv_is a b b m _ _ ha hb hb e1.out.1 e1.out.2 _).mono ?_
      rintro e w' ⟨rfl, n, rfl⟩
      rw [errv_1]
      go_wp2_with fail
      go_ret
      exact ⟨by simp, _, rfl⟩
    · have h1' : (b == 0) = false := by simpa using h1
      have h2 : m < 1 ∨ 4 < m := by omega
      clear h h1
      by_cases h3 : m < 1
      · clear h2
        go_enter Try.func11, Try.ntmps11
        go_wp2_with fail
        refine (up_any _).mono ?_
        rintro e w' ⟨rfl, n, rfl⟩
        go_wp2_with fail
        refine (mulDiv_is a b b m _ _ ha hb hb e1.out.1 e1.out.2 _).mono ?_
        rintro e w' ⟨rfl, n, rfl⟩
        rw [errv_1]
        go_wp2_with fail
        go_ret
        exact ⟨by simp, _, rfl⟩
      · have h4 : 4 < m := by omega
        clear h2
        go_enter Try.func11, Try.ntmps11
        go_wp2_with fail
        refine (up_any _).mono ?_
        rintro e w' ⟨rfl, n, rfl⟩
        go_wp2_with fail
        refine (mulDiv_is a b b m _ _ ha hb hb e1.out.1 e1.out.2 _).mono ?_
        rintro e w' ⟨rfl, n, rfl⟩
        rw [errv_1]
        go_wp2_with fail
        go_ret
        exact ⟨by simp, _, rfl⟩
  · have e1 : Hid (mdV a b b m = a ∧ mdE a b b m = 0) := by
      unfold mdV mdE
      rw [if_neg h, if_neg h, rnd_whole m a b (by omega)]
      exact ov_in ha
    have h1' : (b == 0) = false := by simpa using (show b ≠ 0 by omega)
    have h3 : ¬ m < 1 := by omega
    have h4 : ¬ 4 < m := by omega
    clear h
    go_enter Try.func11, Try.ntmps11
    go_wp2_with fail
    refine (up_any _).mono ?_
    rintro e w' ⟨rfl, n, rfl⟩
    go_wp2_with fail
    refine (mulDiv_is a b b m _ _ ha hb hb e1.out.1 e1.out.2 _).mono ?_
    rintro e w' ⟨rfl, n, rfl⟩
    rw [errv_0]
    go_wp2_with fail
    go_ret
    exact ⟨by simp, _, rfl⟩
end Go.Proofs.Ytheplpfhgifkcaa
