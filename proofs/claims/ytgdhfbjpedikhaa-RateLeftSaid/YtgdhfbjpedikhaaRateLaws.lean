/- The walks of RateMonths, RateLeft and RateLevel. -/
import Derived.Test.YtgdhfbjpedikhaaRateRef
namespace Go.Proofs.Ytgdhfbjpedikhaa
open Go Go.RowKit
set_option linter.unusedVariables false

set_option maxHeartbeats 2000000 in
theorem rateMonths_walk (b r p : Int) (w : World) :
    Calls Try.prog 4 #[.int .i64 b, .int .i64 r, .int .i64 p] w fun e w' => e = .returned (.bool true) ∧ ∃ n, w' = World.drewN w n := by
  have r1 := fun w => run_eql_code w 1 1
  have r3 := fun w => run_eql_code w 3 3
  by_cases h : mayP b r
  · obtain ⟨m, hm⟩ : ∃ m, mon b r = m := ⟨_, rfl⟩
    have H := Lib.hid h
    have HM := Lib.hid hm
    have HQ := Lib.hid (mayQ_yes h)
    clear h hm
    by_cases hp : p < 0
    · go_enter Try.func4, Try.ntmps4
      go_wp2_with fail
      refine (up02_any _).mono ?_
      rintro e w' ⟨rfl, q, rfl⟩
      go_wp2_with fail
      refine (month_yes b r m H.out HM.out _).mono ?_
      rintro e w' ⟨rfl, q, rfl⟩
      go_wp2_with fail
      refine (next_neg b r p H.out hp _).mono ?_
      rintro e w' ⟨rfl, q, rfl⟩
      go_wp2_with fail
      refine (refMay_any b r _ HQ.out _).mono ?_
      rintro e w' ⟨rfl, rfl⟩
      go_wp2_with fail
      refine (refMonth_any b r m H.out HM.out _).mono ?_
      rintro e w' ⟨rfl, rfl⟩
      go_wp2_with fail
      go_ret
      exact ⟨by simp, _, rfl⟩
    · have hp' : 0 ≤ p := by omega
      clear hp
      obtain ⟨x, hx⟩ : ∃ x, nxt b r p = x := ⟨_, rfl⟩
      by_cases ho : 10000000000000 < x
      · have HO : Hid (10000000000000 < nxt b r p) := by rw [hx]; exact ho
        clear hx ho
        go_enter Try.func4, Try.ntmps4
        go_wp2_with fail
        refine (up02_any _).mono ?_
        rintro e w' ⟨rfl, q, rfl⟩
        go_wp2_with fail
        refine (month_yes b r m H.out HM.out _).mono ?_
        rintro e w' ⟨rfl, q, rfl⟩
        go_wp2_with fail
        refine (next_over b r p H.out hp' HO.out _).mono ?_
        rintro e w' ⟨rfl, q, rfl⟩
        go_wp2_with fail
        refine (refMay_any b r _ HQ.out _).mono ?_
        rintro e w' ⟨rfl, rfl⟩
        go_wp2_with fail
        refine (refMonth_any b r m H.out HM.out _).mono ?_
        rintro e w' ⟨rfl, rfl⟩
        go_wp2_with fail
        refine (refNext_over b r p H.out hp' HO.out _).mono ?_
        rintro e w' ⟨rfl, rfl⟩
        go_wp2_with fail
        go_ret
        exact ⟨by simp, _, rfl⟩
      · have hb := (nxt_bound H.out hp').1
        rw [hx] at hb
        have HX := Lib.hid hx
        have HO : Hid (nxt b r p ≤ 10000000000000) := by rw [hx]; exact (show x ≤ 10000000000000 by omega)
        clear hx
        go_enter Try.func4, Try.ntmps4
        go_wp2_with fail
        refine (up02_any _).mono ?_
        rintro e w' ⟨rfl, q, rfl⟩
        go_wp2_with fail
        refine (month_yes b r m H.out HM.out _).mono ?_
        rintro e w' ⟨rfl, q, rfl⟩
        go_wp2_with fail
        refine (next_yes b r p m x H.out hp' HO.out HM.out HX.out _).mono ?_
        rintro e w' ⟨rfl, q, rfl⟩
        go_wp2_with fail
        refine (refMay_any b r _ HQ.out _).mono ?_
        rintro e w' ⟨rfl, rfl⟩
        go_wp2_with fail
        refine (refMonth_any b r m H.out HM.out _).mono ?_
        rintro e w' ⟨rfl, rfl⟩
        go_wp2_with fail
        refine (refNext_is b r p x H.out hp' HX.out (by omega) _).mono ?_
        rintro e w' ⟨rfl, rfl⟩
        go_wp2_with fail
        go_ret
        exact ⟨by simp, _, rfl⟩
  · have H := Lib.hid h
    have HQ := Lib.hid (mayQ_no h)
    clear h
    go_enter Try.func4, Try.ntmps4
    go_wp2_with fail
    refine (up02_any _).mono ?_
    rintro e w' ⟨rfl, q, rfl⟩
    go_wp2_with fail
    refine (month_no b r H.out _).mono ?_
    rintro e w' ⟨rfl, rfl⟩
    go_wp2_with fail
    refine (next_no b r p H.out _).mono ?_
    rintro e w' ⟨rfl, rfl⟩
    go_wp2_with fail
    refine (refMay_any b r _ HQ.out _).mono ?_
    rintro e w' ⟨rfl, rfl⟩
    go_wp2_with fail
    go_ret
    exact ⟨by simp, _, rfl⟩

theorem not_leftMay {b r p n : Int} (hm : mayP b r) (h : ¬ leftMay b r p n) : p < 0 ∨ (0 ≤ p ∧ n < 0) ∨ (0 ≤ p ∧ 0 ≤ n ∧ 480 < n) := by
  have : ¬ (0 ≤ p ∧ 0 ≤ n ∧ n ≤ 480) := fun hc => h ⟨hm, hc⟩
  omega

set_option maxHeartbeats 2000000 in
theorem rateLeft_walk (b r p n : Int) (w : World) :
    Calls Try.prog 5 #[.int .i64 b, .int .i64 r, .int .i64 p, .int .i64 n] w fun e w' => e = .returned (.bool true) ∧ ∃ n, w' = World.drewN w n := by
  have r1 := fun w => run_eql_code w 1 1
  have r3 := fun w => run_eql_code w 3 3
  by_cases h : leftMay b r p n
  · obtain ⟨hm, hp, hn, hn'⟩ := h
    have H := Lib.hid hm
    have HQ := Lib.hid (mayQ_yes hm)
    clear hm
    cases ho : lft r p n.toNat b with
    | none =>
      have HO := Lib.hid ho
      clear ho
      go_enter Try.func5, Try.ntmps5
      go_wp2_with fail
      refine (up02_any _).mono ?_
      rintro e w' ⟨rfl, q, rfl⟩
      go_wp2_with fail
      refine (left_over b r p n H.out hp hn hn' HO.out _).mono ?_
      rintro e w' ⟨rfl, q, rfl⟩
      go_wp2_with fail
      refine (refMay_any b r _ HQ.out _).mono ?_
      rintro e w' ⟨rfl, rfl⟩
      go_wp2_with fail
      refine (refLeft_over b r p n H.out hp hn hn' HO.out _).mono ?_
      rintro e w' ⟨rfl, rfl⟩
      go_wp2_with fail
      go_ret
      exact ⟨by simp, _, rfl⟩
    | some x =>
      have HO := Lib.hid ho
      clear ho
      go_enter Try.func5, Try.ntmps5
      go_wp2_with fail
      refine (up02_any _).mono ?_
      rintro e w' ⟨rfl, q, rfl⟩
      go_wp2_with fail
      refine (left_yes b r p n x H.out hp hn hn' HO.out _).mono ?_
      rintro e w' ⟨rfl, q, rfl⟩
      go_wp2_with fail
      refine (refMay_any b r _ HQ.out _).mono ?_
      rintro e w' ⟨rfl, rfl⟩
      go_wp2_with fail
      refine (refLeft_yes b r p n x H.out hp hn hn' HO.out _).mono ?_
      rintro e w' ⟨rfl, rfl⟩
      go_wp2_with fail
      go_ret
      exact ⟨by simp, _, rfl⟩
  · have HL := Lib.hid h
    by_cases hm : mayP b r
    · have HQ := Lib.hid (mayQ_yes hm)
      have hc := not_leftMay hm h
      clear h hm
      rcases hc with hc | ⟨hc, hd⟩ | ⟨hc, hd, he⟩
      all_goals
        go_enter Try.func5, Try.ntmps5
        go_wp2_with fail
        refine (up02_any _).mono ?_
        rintro e w' ⟨rfl, q, rfl⟩
        go_wp2_with fail
        refine (left_no b r p n HL.out _).mono ?_
        rintro e w' ⟨rfl, rfl⟩
        go_wp2_with fail
        refine (refMay_any b r _ HQ.out _).mono ?_
        rintro e w' ⟨rfl, rfl⟩
        go_wp2_with fail
        go_ret
        exact ⟨by simp, _, rfl⟩
    · have HQ := Lib.hid (mayQ_no hm)
      clear h hm
      go_enter Try.func5, Try.ntmps5
      go_wp2_with fail
      refine (up02_any _).mono ?_
      rintro e w' ⟨rfl, q, rfl⟩
      go_wp2_with fail
      refine (left_no b r p n HL.out _).mono ?_
      rintro e w' ⟨rfl, rfl⟩
      go_wp2_with fail
      refine (refMay_any b r _ HQ.out _).mono ?_
      rintro e w' ⟨rfl, rfl⟩
      go_wp2_with fail
      go_ret
      exact ⟨by simp, _, rfl⟩

set_option maxHeartbeats 2000000 in
theorem rateLevel_walk (b r n : Int) (w : World) :
    Calls Try.prog 6 #[.int .i64 b, .int .i64 r, .int .i64 n] w fun e w' => e = .returned (.bool true) ∧ ∃ n, w' = World.drewN w n := by
  have r1 := fun w => run_eql_code w 1 1
  by_cases hm : mayP b r
  · have H := Lib.hid hm
    have HQ := Lib.hid (mayQ_yes hm)
    by_cases hn : 1 ≤ n ∧ n ≤ 480
    · obtain ⟨n1, n2⟩ := hn
      clear hm
      go_enter Try.func6, Try.ntmps6
      go_wp2_with fail
      refine (up02_any _).mono ?_
      rintro e w' ⟨rfl, q, rfl⟩
      go_wp2_with fail
      refine (level_yes b r n H.out n1 n2 _).mono ?_
      rintro e w' ⟨p, rfl, hl, q, rfl⟩
      obtain ⟨p0, p1, hp, hq⟩ := hl
      have HP := Lib.hid (paysQ_yes hp)
      have HN : Hid (0 < p → paysQ b r (p - 1) n.toNat = false) := fun hc => paysQ_no (hq (p - 1) (by omega) (by omega))
      clear hp hq
      by_cases hz : 0 < p
      · go_wp2_with fail
        refine (refMay_any b r _ HQ.out _).mono ?_
        rintro e w' ⟨rfl, rfl⟩
        go_wp2_with fail
        refine (refPays_any b r p n H.out p0 (by omega) n2 _ HP.out _).mono ?_
        rintro e w' ⟨rfl, rfl⟩
        go_wp2_with fail
        refine (refPays_any b r (p - 1) n H.out (by omega) (by omega) n2 _ (HN.out hz) _).mono ?_
        rintro e w' ⟨rfl, rfl⟩
        go_wp2_with fail
        go_ret
        exact ⟨by simp, _, rfl⟩
      · go_wp2_with fail
        refine (refMay_any b r _ HQ.out _).mono ?_
        rintro e w' ⟨rfl, rfl⟩
        go_wp2_with fail
        refine (refPays_any b r p n H.out p0 (by omega) n2 _ HP.out _).mono ?_
        rintro e w' ⟨rfl, rfl⟩
        go_wp2_with fail
        go_ret
        exact ⟨by simp, _, rfl⟩
    · have HL : Hid (¬ (mayP b r ∧ 1 ≤ n ∧ n ≤ 480)) := fun hc => hn hc.2
      have hc : n < 1 ∨ (1 ≤ n ∧ 480 < n) := by omega
      clear hn hm
      rcases hc with hc | ⟨hc, hd⟩
      all_goals
        go_enter Try.func6, Try.ntmps6
        go_wp2_with fail
        refine (up02_any _).mono ?_
        rintro e w' ⟨rfl, q, rfl⟩
        go_wp2_with fail
        refine (level_no b r n HL.out _).mono ?_
        rintro e w' ⟨rfl, q, rfl⟩
        go_wp2_with fail
        refine (refMay_any b r _ HQ.out _).mono ?_
        rintro e w' ⟨rfl, rfl⟩
        go_wp2_with fail
        go_ret
        exact ⟨by simp, _, rfl⟩
  · have HQ := Lib.hid (mayQ_no hm)
    have HL : Hid (¬ (mayP b r ∧ 1 ≤ n ∧ n ≤ 480)) := fun hc => hm hc.1
    clear hm
    go_enter Try.func6, Try.ntmps6
    go_wp2_with fail
    refine (up02_any _).mono ?_
    rintro e w' ⟨rfl, q, rfl⟩
    go_wp2_with fail
    refine (level_no b r n HL.out _).mono ?_
    rintro e w' ⟨rfl, q, rfl⟩
    go_wp2_with fail
    refine (refMay_any b r _ HQ.out _).mono ?_
    rintro e w' ⟨rfl, rfl⟩
    go_wp2_with fail
    go_ret
    exact ⟨by simp, _, rfl⟩
end Go.Proofs.Ytgdhfbjpedikhaa
