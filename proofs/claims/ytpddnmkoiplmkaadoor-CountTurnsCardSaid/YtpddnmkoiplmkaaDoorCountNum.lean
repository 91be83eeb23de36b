/- Plain numbers of layer 5: days between, interest of days. No program in sight. -/
import Derived.Test.YtpddnmkoiplmkaaDoorRateNum
import Derived.Test.YtpddnmkoiplmkaaDoorDateNum
namespace Go.Proofs.YtpddnmkoiplmkaaDoor
open Go
set_option linter.unusedVariables false

/-- a date's days by months, up to a 31st that is a 30th -/
def thirtyD (y m d : Int) : Int := 360 * y + 30 * m + (if d = 31 then 30 else d)

/-- days between two dates -/
def btw (mo : Bool) (ya ma da yb mb db : Int) : Int := if mo = true then thirtyD yb mb db - thirtyD ya ma da else numD yb mb db - numD ya ma da

/-- a year's days, by a million -/
def yd (mo : Bool) : Int := if mo = true then 360000000 else 365000000

/-- the interest of days -/
def accI (b r d : Int) (mo : Bool) : Int := rndC 4 (b * (r * d)) (yd mo)

def mayA (b r d : Int) : Prop := 0 ≤ b ∧ b ≤ 10000000000000 ∧ 0 ≤ r ∧ r ≤ 300000 ∧ 0 ≤ d ∧ d ≤ 40000
instance (b r d : Int) : Decidable (mayA b r d) := by unfold mayA; infer_instance

theorem rnd4_monoA {n m : Int} (h : n ≤ m) : rndC 4 n 360000000 ≤ rndC 4 m 360000000 := by
  unfold rndC
  simp only [show ¬ (4 : Int) = 1 by omega, show ¬ (4 : Int) = 2 by omega, show ¬ (4 : Int) = 3 by omega, or_false, true_and, false_and, if_false]
  split <;> split <;> (try omega) <;> split <;> (try omega) <;> split <;> (try omega) <;> split <;> (try omega) <;> split <;> (try omega) <;> split <;> omega
theorem rnd4_monoB {n m : Int} (h : n ≤ m) : rndC 4 n 365000000 ≤ rndC 4 m 365000000 := by
  unfold rndC
  simp only [show ¬ (4 : Int) = 1 by omega, show ¬ (4 : Int) = 2 by omega, show ¬ (4 : Int) = 3 by omega, or_false, true_and, false_and, if_false]
  split <;> split <;> (try omega) <;> split <;> (try omega) <;> split <;> (try omega) <;> split <;> (try omega) <;> split <;> (try omega) <;> split <;> omega
theorem rnd4_yd {n m : Int} (mo : Bool) (h : n ≤ m) : rndC 4 n (yd mo) ≤ rndC 4 m (yd mo) := by
  cases mo
  · exact rnd4_monoB h
  · exact rnd4_monoA h

theorem acc_mono {b r d d' : Int} (mo : Bool) (hb : 0 ≤ b) (hr : 0 ≤ r) (h : d ≤ d') : accI b r d mo ≤ accI b r d' mo :=
  rnd4_yd mo (Int.mul_le_mul_of_nonneg_left (Int.mul_le_mul_of_nonneg_left h hr) hb)
theorem acc_zero (b r : Int) (mo : Bool) : accI b r 0 mo = 0 := by unfold accI; cases mo <;> simp [rndC, yd]

theorem rd_bound {r d : Int} (hr : 0 ≤ r) (hr' : r ≤ 300000) (hd : 0 ≤ d) (hd' : d ≤ 40000) : 0 ≤ r * d ∧ r * d ≤ 12000000000 := by
  refine ⟨Int.mul_nonneg hr hd, ?_⟩
  have h1 : r * d ≤ r * 40000 := Int.mul_le_mul_of_nonneg_left hd' hr
  omega

theorem acc_bound {b r d : Int} (mo : Bool) (h : mayA b r d) : 0 ≤ accI b r d mo ∧ accI b r d mo ≤ 1000000000000000 := by
  obtain ⟨b0, b1, r0, r1, d0, d1⟩ := h
  obtain ⟨k0, k1⟩ := rd_bound r0 r1 d0 d1
  constructor
  · rw [← acc_zero b r mo]; exact acc_mono mo b0 r0 d0
  · have h1 : b * (r * d) ≤ b * 12000000000 := Int.mul_le_mul_of_nonneg_left k1 b0
    refine Int.le_trans (rnd4_yd mo h1) ?_
    have hA : rndC 4 (b * 12000000000) 360000000 ≤ 1000000000000000 := by
      unfold rndC
      repeat' split
      all_goals omega
    have hB : rndC 4 (b * 12000000000) 365000000 ≤ 1000000000000000 := by
      unfold rndC
      repeat' split
      all_goals omega
    cases mo
    · exact hB
    · exact hA

/-- what MulDiv tells of days -/
theorem acc_md {b r d : Int} (mo : Bool) (h : mayA b r d) : mdV b (r * d) (yd mo) 4 = accI b r d mo ∧ mdE b (r * d) (yd mo) 4 = 0 := by
  have hb := acc_bound mo h
  have hy : 0 < yd mo := by cases mo <;> decide
  have e : rnd 4 (b * (r * d)) (yd mo) = accI b r d mo := by unfold rnd accI; rw [if_neg (by omega)]
  unfold mdV mdE
  rw [if_neg (by omega), if_neg (by omega), e]
  exact ov_in (by omega)

/-- 30 days by months are a month -/
theorem acc_month (b r : Int) : accI b r 30 true = mon b r := by
  unfold accI mon yd
  have e : b * (r * 30) = 30 * (b * r) := by rw [← Int.mul_assoc, Int.mul_comm]
  rw [e]
  generalize b * r = n
  simp only [if_true]
  unfold rndC
  simp only [show ¬ (4 : Int) = 1 by omega, show ¬ (4 : Int) = 2 by omega, show ¬ (4 : Int) = 3 by omega, or_false, true_and, false_and, if_false]
  have e1 : 30 * n / 360000000 = n / 12000000 := by omega
  have e2 : 30 * n % 360000000 = 30 * (n % 12000000) := by omega
  rw [e1, e2]
  split <;> split <;> (try omega) <;> split <;> (try omega) <;> split <;> (try omega) <;> split <;> (try omega) <;> split <;> (try omega) <;> split <;> omega

/-- the same day of the next month, by months -/
theorem thirty_next (y m d : Int) : thirtyD (mvY y m 1) (mvM y m 1) d - thirtyD y m d = 30 := by
  unfold thirtyD mvY mvM
  split <;> omega
end Go.Proofs.YtpddnmkoiplmkaaDoor
