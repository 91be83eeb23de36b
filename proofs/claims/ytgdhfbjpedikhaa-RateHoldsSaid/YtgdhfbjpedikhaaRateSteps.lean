/- The walks of RateSteps and RateHolds. -/
import Derived.Test.YtgdhfbjpedikhaaRateAny
namespace Go.Proofs.Ytgdhfbjpedikhaa
open Go Go.RowKit
set_option linter.unusedVariables false

theorem steps_tests (b r p m n c X : Int) (hm : 0 ≤ m ∧ m ≤ 480) (hn : 0 ≤ n) (hc : (c = m + n ∧ c ≤ 480) ∨ (c < 0 ∧ 480 < n)) (hX : leftV b r p m = X) :
    (leftE b r p m ≠ 0 ∧ leftE b r p c ≠ 0) ∨ (leftE b r p m = 0 ∧ leftE X r p n = leftE b r p c ∧ leftV X r p n = leftV b r p c) := by
  subst hX
  rcases hc with ⟨hc, hc'⟩ | ⟨hc, hc'⟩
  · have hadd : leftO b r p c = (leftO b r p m).bind fun x => leftO x r p n := by
      unfold leftO
      rw [hc, Int.toNat_add hm.1 hn, lft_add]
    by_cases h : leftE b r p m = 0
    · obtain ⟨h1, h2⟩ := left_ok h
      have hb := lft_bound h1.1.2.2.1 h1.1.2.2.2 h1.2.1 m.toNat h1.1.1 h1.1.2.1 h2
      have hm1 : leftMay b r p c := ⟨h1.1, h1.2.1, by omega, by omega⟩
      have hm2 : leftMay (leftV b r p m) r p n := ⟨⟨hb.1, hb.2.1, h1.1.2.2⟩, h1.2.1, hn, by omega⟩
      rw [h2] at hadd
      simp only [Option.bind_some] at hadd
      refine Or.inr ⟨h, ?_⟩
      cases ho : leftO b r p c with
      | none => rw [ho] at hadd; rw [(left_none hm1 ho).1, (left_none hm1 ho).2, (left_none hm2 hadd.symm).1, (left_none hm2 hadd.symm).2]; exact ⟨rfl, rfl⟩
      | some x => rw [ho] at hadd; rw [(left_some hm1 ho).1, (left_some hm1 ho).2, (left_some hm2 hadd.symm).1, (left_some hm2 hadd.symm).2]; exact ⟨rfl, rfl⟩
    · refine Or.inl ⟨h, ?_⟩
      by_cases h1 : leftMay b r p m
      · have ho : leftO b r p m = none := by
          cases ho : leftO b r p m with
          | none => rfl
          | some x => exact absurd (left_some h1 ho).1 h
        rw [ho] at hadd
        simp only [Option.bind_none] at hadd
        have hm1 : leftMay b r p c := ⟨h1.1, h1.2.1, by omega, by omega⟩
        rw [(left_none hm1 hadd).1]; omega
      · have hm1 : ¬ leftMay b r p c := fun g => h1 ⟨g.1, g.2.1, hm⟩
        rw [(left_bad hm1).1]; omega
  · have hm1 : ¬ leftMay b r p c := fun g => by have := g.2.2.1; omega
    have hm2 : ¬ leftMay (leftV b r p m) r p n := fun g => by have := g.2.2.2; omega
    rw [(left_bad hm1).1, (left_bad hm1).2, (left_bad hm2).1, (left_bad hm2).2]
    by_cases h : leftE b r p m = 0
    · exact Or.inr ⟨h, rfl, rfl⟩
    · exact Or.inl ⟨h, by omega⟩

set_option maxHeartbeats 2000000 in
theorem rateSteps_late (b r p m n c : Int) (hm : 0 ≤ m ∧ m ≤ 480) (hn : 0 ≤ n) (hn' : n ≤ 9223372036854775807) (hc : (c = m + n ∧ c ≤ 480) ∨ (c < 0 ∧ 480 < n)) (hw : wrap64 (m + n) = c) (w : World) :
    Calls Try.prog 8 #[.int .i64 b, .int .i64 r, .int .i64 p, .int .i64 m, .int .i64 n] w fun e w' => e = .returned (.bool true) ∧ ∃ n, w' = World.drewN w n := by
  obtain ⟨X, hX⟩ : ∃ x, leftV b r p m = x := ⟨_, rfl⟩
  obtain ⟨KX, hKX⟩ : ∃ x, leftE b r p m = x := ⟨_, rfl⟩
  obtain ⟨Z, hZ⟩ : ∃ x, leftV b r p c = x := ⟨_, rfl⟩
  obtain ⟨KZ, hKZ⟩ : ∃ x, leftE b r p c = x := ⟨_, rfl⟩
  obtain ⟨Y, hY⟩ : ∃ x, leftV X r p n = x := ⟨_, rfl⟩
  obtain ⟨KY, hKY⟩ : ∃ x, leftE X r p n = x := ⟨_, rfl⟩
  have ht := steps_tests b r p m n c X hm hn hc hX
  have hk := leftE_values b r p c
  rw [hKX, hKZ, hKY, hY, hZ] at ht
  rw [hKZ] at hk
  have HX := Lib.hid (And.intro hX hKX)
  have HY := Lib.hid (And.intro hY hKY)
  have HZ := Lib.hid (And.intro hZ hKZ)
  clear hX hKX hY hKY hZ hKZ
  have rn := fun (w : World) (k : Int) => run_neq_errv_nil w k
  have re := fun (w : World) (k : Int) => run_eql_errv_nil w k
  have gn := guard_neq_errv_nil
  have ge := guard_eql_errv_nil
  obtain ⟨m0, m1⟩ := hm
  have hc2 : c ≤ 480 := by omega
  have HW := Lib.hid hw
  rcases ht with ⟨h1, h2⟩ | ⟨h1, h2, h3⟩
  · have h1' : (KX != 0) = true := by simpa using h1
    have h2' : (KZ != 0) = true := by simpa using h2
    clear h1 h2 hk
    rcases hc with ⟨hc, hc'⟩ | ⟨hc, hc'⟩
    · subst hc
      clear hw
      go_enter Try.func8, Try.ntmps8
      go_wp2_with fail
      refine (up02_any _).mono ?_
      rintro e w' ⟨rfl, q, rfl⟩
      go_wp2_with fail
      refine (left_any b r p m X KX HX.out.1 HX.out.2 _).mono ?_
      rintro e w' ⟨rfl, q, rfl⟩
      go_wp2_with fail
      refine (left_any b r p (m + n) Z KZ HZ.out.1 HZ.out.2 _).mono ?_
      rintro e w' ⟨rfl, q, rfl⟩
      go_wp2_with fail
      go_ret
      exact ⟨rfl, _, rfl⟩
    · go_enter Try.func8, Try.ntmps8
      go_wp2_with fail
      refine (up02_any _).mono ?_
      rintro e w' ⟨rfl, q, rfl⟩
      go_wp2_with fail
      refine (left_any b r p m X KX HX.out.1 HX.out.2 _).mono ?_
      rintro e w' ⟨rfl, q, rfl⟩
      go_wp2_with fail
      refine (left_any b r p c Z KZ HZ.out.1 HZ.out.2 _).mono ?_
      rintro e w' ⟨rfl, q, rfl⟩
      go_wp2_with fail
      go_ret
      exact ⟨rfl, _, rfl⟩
  · subst h1 h2 h3
    rcases hk with rfl | rfl | rfl
    all_goals
      rcases hc with ⟨hc, hc'⟩ | ⟨hc, hc'⟩
      · subst hc
        clear hw
        go_enter Try.func8, Try.ntmps8
        go_wp2_with fail
        refine (up02_any _).mono ?_
        rintro e w' ⟨rfl, q, rfl⟩
        go_wp2_with fail
        refine (left_any b r p m X 0 HX.out.1 HX.out.2 _).mono ?_
        rintro e w' ⟨rfl, q, rfl⟩
        rw [errv_0]
        go_wp2_with fail
        refine (left_any b r p (m + n) _ _ HZ.out.1 HZ.out.2 _).mono ?_
        rintro e w' ⟨rfl, q, rfl⟩
        first | rw [errv_0] | rw [errv_1] | rw [errv_3]
        go_wp2_with fail
        refine (left_any X r p n _ _ HY.out.1 HY.out.2 _).mono ?_
        rintro e w' ⟨rfl, q, rfl⟩
        first | rw [errv_0] | rw [errv_1] | rw [errv_3]
        go_wp2_with fail
        go_quiet (fail)
        go_wp2_with fail
        go_ret
        exact ⟨by simp, _, World.drewN_drewN _ _ _⟩
      · go_enter Try.func8, Try.ntmps8
        go_wp2_with fail
        refine (up02_any _).mono ?_
        rintro e w' ⟨rfl, q, rfl⟩
        go_wp2_with fail
        refine (left_any b r p m X 0 HX.out.1 HX.out.2 _).mono ?_
        rintro e w' ⟨rfl, q, rfl⟩
        rw [errv_0]
        go_wp2_with fail
        refine (left_any b r p c _ _ HZ.out.1 HZ.out.2 _).mono ?_
        rintro e w' ⟨rfl, q, rfl⟩
        first | rw [errv_0] | rw [errv_1] | rw [errv_3]
        go_wp2_with fail
        refine (left_any X r p n _ _ HY.out.1 HY.out.2 _).mono ?_
        rintro e w' ⟨rfl, q, rfl⟩
        first | rw [errv_0] | rw [errv_1] | rw [errv_3]
        go_wp2_with fail
        go_quiet (fail)
        go_wp2_with fail
        go_ret
        exact ⟨by simp, _, World.drewN_drewN _ _ _⟩

set_option maxHeartbeats 1000000 in
theorem rateSteps_early (b r p m n : Int) (hm' : -9223372036854775808 ≤ m ∧ m ≤ 9223372036854775807) (hn' : -9223372036854775808 ≤ n ∧ n ≤ 9223372036854775807)
    (h : m < 0 ∨ (0 ≤ m ∧ 480 < m) ∨ (0 ≤ m ∧ m ≤ 480 ∧ n < 0) ∨ (0 ≤ m ∧ m ≤ 480 ∧ 0 ≤ n ∧ m + n ≤ 9223372036854775807 ∧ 480 < m + n)) (w : World) :
    Calls Try.prog 8 #[.int .i64 b, .int .i64 r, .int .i64 p, .int .i64 m, .int .i64 n] w fun e w' => e = .returned (.bool true) ∧ ∃ n, w' = World.drewN w n := by
  obtain ⟨m0, m1⟩ := hm'
  obtain ⟨n0, n1⟩ := hn'
  rcases h with h | ⟨h, h1⟩ | ⟨h, h1, h2⟩ | ⟨h, h1, h2, h3, h4⟩
  all_goals
    go_enter Try.func8, Try.ntmps8
    go_wp2_with fail
    refine (up02_any _).mono ?_
    rintro e w' ⟨rfl, q, rfl⟩
    go_wp2_with fail
    go_ret
    exact ⟨rfl, _, rfl⟩

theorem rateSteps_walk (b r p m n : Int) (hm' : -9223372036854775808 ≤ m ∧ m ≤ 9223372036854775807) (hn' : -9223372036854775808 ≤ n ∧ n ≤ 9223372036854775807) (w : World) :
    Calls Try.prog 8 #[.int .i64 b, .int .i64 r, .int .i64 p, .int .i64 m, .int .i64 n] w fun e w' => e = .returned (.bool true) ∧ ∃ n, w' = World.drewN w n := by
  by_cases h : m < 0 ∨ (0 ≤ m ∧ 480 < m) ∨ (0 ≤ m ∧ m ≤ 480 ∧ n < 0) ∨ (0 ≤ m ∧ m ≤ 480 ∧ 0 ≤ n ∧ m + n ≤ 9223372036854775807 ∧ 480 < m + n)
  · exact rateSteps_early b r p m n hm' hn' h w
  · have hm : 0 ≤ m ∧ m ≤ 480 := by omega
    have hn : 0 ≤ n := by omega
    by_cases hb : m + n ≤ 9223372036854775807
    · exact rateSteps_late b r p m n (m + n) hm hn hn'.2 (Or.inl ⟨rfl, by omega⟩) (by unfold wrap64; omega) w
    · exact rateSteps_late b r p m n (m + n - 18446744073709551616) hm hn hn'.2 (Or.inr ⟨by omega, by omega⟩) (by unfold wrap64; omega) w

set_option maxHeartbeats 1000000 in
theorem rateHolds_walk (b r m : Int) (w : World) :
    Calls Try.prog 9 #[.int .i64 b, .int .i64 r, .int .i64 m] w fun e w' => e = .returned (.bool true) ∧ ∃ n, w' = World.drewN w n := by
  by_cases h : mayP b r
  · obtain ⟨i, hi⟩ : ∃ i, mon b r = i := ⟨_, rfl⟩
    have hr := mon_room h
    rw [hi] at hr
    obtain ⟨i0, i1⟩ := hr
    have b1 := h.1
    have b2 := h.2.1
    have H := Lib.hid h
    have HI := Lib.hid hi
    by_cases c : m < 0 ∨ (0 ≤ m ∧ 10000000000000 < m)
    · clear h hi
      rcases c with c | ⟨c, d⟩
      all_goals
        go_enter Try.func9, Try.ntmps9
        go_wp2_with fail
        refine (up02_any _).mono ?_
        rintro e w' ⟨rfl, q, rfl⟩
        go_wp2_with fail
        refine (month_yes b r i H.out HI.out _).mono ?_
        rintro e w' ⟨rfl, q, rfl⟩
        go_wp2_with fail
        go_ret
        exact ⟨rfl, _, rfl⟩
    · have m0 : 0 ≤ m := by omega
      have m1 : m ≤ 10000000000000 := by omega
      have e1 : nxt b r i = b := by unfold nxt; rw [hi, if_neg (by omega)]; omega
      have e2 : nxt b r (b + i + m) = 0 := by
        unfold nxt; rw [hi]; split <;> omega
      have E1 := Lib.hid e1
      have E2 := Lib.hid e2
      clear h hi c e1 e2
      go_enter Try.func9, Try.ntmps9
      go_wp2_with fail
      refine (up02_any _).mono ?_
      rintro e w' ⟨rfl, q, rfl⟩
      go_wp2_with fail
      refine (month_yes b r i H.out HI.out _).mono ?_
      rintro e w' ⟨rfl, q, rfl⟩
      go_wp2_with fail
      refine (next_yes b r i i b H.out i0 (by rw [E1.out]; omega) HI.out E1.out _).mono ?_
      rintro e w' ⟨rfl, q, rfl⟩
      go_wp2_with fail
      refine (next_yes b r (b + i + m) i 0 H.out (by omega) (by rw [E2.out]; omega) HI.out E2.out _).mono ?_
      rintro e w' ⟨rfl, q, rfl⟩
      go_wp2_with fail
      go_ret
      exact ⟨by simp, _, rfl⟩
  · have H := Lib.hid h
    clear h
    go_enter Try.func9, Try.ntmps9
    go_wp2_with fail
    refine (up02_any _).mono ?_
    rintro e w' ⟨rfl, q, rfl⟩
    go_wp2_with fail
    refine (month_no b r H.out _).mono ?_
    rintro e w' ⟨rfl, rfl⟩
    go_wp2_with fail
    go_ret
    exact ⟨rfl, _, rfl⟩
end Go.Proofs.Ytgdhfbjpedikhaa
