/- The contracts of rate.Month. -/
import Derived.Test.YtpddnmkoiplmkaaDoorMulDiv
import Derived.Test.YtpddnmkoiplmkaaDoorRateNum
namespace Go.Proofs.YtpddnmkoiplmkaaDoor
open Go Go.RowKit
set_option linter.unusedVariables false

theorem mayQ_yes {b r : Int} (h : mayP b r) : mayQ b r = true := by simpa [mayQ] using h
theorem mayQ_no {b r : Int} (h : ¬ mayP b r) : mayQ b r = false := by simpa [mayQ] using h

set_option maxHeartbeats 400000 in
theorem mayBe_any (b r : Int) (w : World) :
    Calls Tryd.prog 31 #[.int .i64 b, .int .i64 r] w fun e w' => e = .returned (.bool (mayQ b r)) ∧ w' = w := by
  by_cases c1 : 0 ≤ b <;> by_cases c2 : b ≤ 10000000000000 <;> by_cases c3 : 0 ≤ r <;> by_cases c4 : r ≤ 300000
  all_goals
    go_enter Tryd.func31, Tryd.ntmps31
    go_wp2
    go_ret
    exact ⟨retb (by unfold mayQ mayP; first | (symm; exact decide_eq_true ⟨by omega, by omega, by omega, by omega⟩) | (symm; exact decide_eq_false (by omega))), rfl⟩

theorem mayBe_yes (b r : Int) (h : mayP b r) (w : World) :
    Calls Tryd.prog 31 #[.int .i64 b, .int .i64 r] w fun e w' => e = .returned (.bool true) ∧ w' = w := by
  rw [← mayQ_yes h]; exact mayBe_any b r w
theorem mayBe_no (b r : Int) (h : ¬ mayP b r) (w : World) :
    Calls Tryd.prog 31 #[.int .i64 b, .int .i64 r] w fun e w' => e = .returned (.bool false) ∧ w' = w := by
  rw [← mayQ_no h]; exact mayBe_any b r w

theorem month_no (b r : Int) (h : ¬ mayP b r) (w : World) :
    Calls Tryd.prog 18 #[.int .i64 b, .int .i64 r] w fun e w' => e = .returned (.tuple #[.int .i64 0, .iface 30 (.int .i64 1)]) ∧ w' = w := by
  have H := Lib.hid h
  clear h
  go_enter Tryd.func18, Tryd.ntmps18
  go_wp2_with fail
  refine (mayBe_no b r H.out _).mono ?_
  rintro e w' ⟨rfl, rfl⟩
  go_wp2_with fail
  go_ret2
  exact ⟨rfl, rfl⟩

theorem month_yes (b r m : Int) (h : mayP b r) (hm : mon b r = m) (w : World) :
    Calls Tryd.prog 18 #[.int .i64 b, .int .i64 r] w fun e w' => e = .returned (.tuple #[.int .i64 m, .nilIface]) ∧ ∃ n, w' = World.drewN w n := by
  subst hm
  have g := mon_md h.1 h.2.1 h.2.2.1 h.2.2.2
  have b1 := h.1
  have b2 := h.2.1
  have b3 := h.2.2.1
  have b4 := h.2.2.2
  have H := Lib.hid h
  have G := Lib.hid g
  clear h g
  go_enter Tryd.func18, Tryd.ntmps18
  go_wp2_with fail
  refine (mayBe_yes b r H.out _).mono ?_
  rintro e w' ⟨rfl, rfl⟩
  go_wp2_with fail
  refine (mulDiv_is b r 12000000 4 _ _ (by omega) (by omega) (by omega) G.out.1 G.out.2 _).mono ?_
  rintro e w' ⟨rfl, n, rfl⟩
  rw [errv_0]
  go_wp2_with fail
  go_ret2
  exact ⟨rfl, _, rfl⟩

def monV (b r : Int) : Int := if mayP b r then mon b r else 0
def monE (b r : Int) : Int := if mayP b r then 0 else 1

theorem month_any (b r v k : Int) (hv : monV b r = v) (hk : monE b r = k) (w : World) :
    Calls Tryd.prog 18 #[.int .i64 b, .int .i64 r] w fun e w' => e = .returned (.tuple #[.int .i64 v, errv k]) ∧ ∃ n, w' = World.drewN w n := by
  subst hv hk
  unfold monV monE
  by_cases h : mayP b r
  · rw [if_pos h, if_pos h, errv_0]; exact month_yes b r _ h rfl w
  · rw [if_neg h, if_neg h, errv_1]; exact (month_no b r h w).mono fun e w' ⟨he, hw⟩ => ⟨he, 0, hw⟩

theorem mon_more {a b r : Int} (ha : monE a r = 0) (hb : monE b r = 0) (h : a ≤ b) : monV a r ≤ monV b r := by
  unfold monE at ha hb
  unfold monV
  by_cases h1 : mayP a r
  · by_cases h2 : mayP b r
    · rw [if_pos h1, if_pos h2]; exact mon_mono h1.2.2.1 h
    · rw [if_neg h2] at hb; omega
  · rw [if_neg h1] at ha; omega

end Go.Proofs.YtpddnmkoiplmkaaDoor
