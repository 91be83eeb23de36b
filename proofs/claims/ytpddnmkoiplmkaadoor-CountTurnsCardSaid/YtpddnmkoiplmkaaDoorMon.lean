/- The table of months' days as it lies in memory; the contracts of package date's leap, Days, newYear. -/
import Derived.Test.YtpddnmkoiplmkaaDoorDateRef3
import Derived.Test.YtpddnmkoiplmkaaDoorErr
import Derived.RegionTactic
import Derived.Deep.RegionLaw
namespace Go.Proofs.YtpddnmkoiplmkaaDoor
open Go Go.RowKit
set_option linter.unusedVariables false

/-- the months' days, in a year without a leap day -/
def mt : Nat → Int
  | 0 => 31 | 1 => 28 | 2 => 31 | 3 => 30 | 4 => 31 | 5 => 30 | 6 => 31 | 7 => 31 | 8 => 30 | 9 => 31 | 10 => 30 | _ => 31

/-- the table lies in this world -/
structure Mon (w : World) : Prop where
  size : 0 < w.heap.size
  cell : ∀ i : Nat, i < 12 → w.cell? ⟨0, i, none⟩ = some (.int .i64 (mt i))

theorem Mon.below {w w' : World} {B : Nat} (h : Mon w) (hb : Below B w w') (hB : w.heap.size ≤ B) : Mon w' :=
  ⟨Nat.lt_of_lt_of_le h.size hb.size, fun i hi => by rw [hb.cell (p := ⟨0, i, none⟩) (Nat.lt_of_lt_of_le h.size hB)]; exact h.cell i hi⟩
theorem Mon.of {w w' : World} (h : Mon w) (hb : Below w.heap.size w w') : Mon w' := h.below hb (Nat.le_refl _)
theorem Mon.alloc {w : World} (h : Mon w) (o : Obj) : Mon (w.alloc o) := h.of ((Below.refl _ _).alloc (Nat.le_refl _) o)
theorem Mon.drewN {w : World} (h : Mon w) (n : Nat) : Mon (w.drewN n) := h.of (below_drewN (Below.refl _ _) n)

theorem leap_any (y : Int) (v : Bool) (h : 0 ≤ y) (hv : decide (leapP y) = v) (w : World) :
    Calls Tryd.prog 41 #[.int .i64 y] w fun e w' => e = .returned (.bool v) ∧ w' = w := by
  subst hv
  by_cases l2 : y % 4 = 0
  · have e3 : (y % 4 == 0) = true := by simpa using l2
    by_cases l3 : y % 100 = 0
    · have e4 : (y % 100 != 0) = false := by simpa using l3
      by_cases l1 : y % 400 = 0
      · have e1 : (y % 400 == 0) = true := by simpa using l1
        have e2 : decide (leapP y) = true := by simpa using (show leapP y from Or.inl l1)
        rw [e2]
        clear e2 l1 l2 l3
        go_enter Tryd.func41, Tryd.ntmps41
        go_wp2
        go_ret
        exact ⟨rfl, rfl⟩
      · have e1 : (y % 400 == 0) = false := by simpa using l1
        have e2 : decide (leapP y) = false := by simpa using (show ¬ leapP y by unfold leapP; omega)
        rw [e2]
        clear e2 l1 l2 l3
        go_enter Tryd.func41, Tryd.ntmps41
        go_wp2
        go_ret
        exact ⟨rfl, rfl⟩
    · have e4 : (y % 100 != 0) = true := by simpa using l3
      have e2 : decide (leapP y) = true := by simpa using (show leapP y from Or.inr ⟨l2, l3⟩)
      rw [e2]
      clear e2 l2 l3
      go_enter Tryd.func41, Tryd.ntmps41
      go_wp2
      go_ret
      exact ⟨rfl, rfl⟩
  · have e3 : (y % 4 == 0) = false := by simpa using l2
    have e1 : (y % 400 == 0) = false := beq_false_of_ne (by omega)
    have e2 : decide (leapP y) = false := by simpa using (show ¬ leapP y by unfold leapP; omega)
    rw [e2]
    clear e2 l2
    go_enter Tryd.func41, Tryd.ntmps41
    go_wp2
    go_ret
    exact ⟨rfl, rfl⟩

set_option maxHeartbeats 2000000 in
theorem days_any (y m v : Int) (hv : dm y m = v) (w : World) (T : Mon w) :
    Calls Tryd.prog 30 #[.int .i64 y, .int .i64 m] w fun e w' => e = .returned (.int .i64 v) ∧ w' = w := by
  subst hv
  by_cases ho : y < 1900 ∨ 2199 < y ∨ m < 1 ∨ 12 < m
  · rw [dm_out ho]
    have hc : y < 1900 ∨ (1900 ≤ y ∧ 2199 < y) ∨ (1900 ≤ y ∧ y ≤ 2199 ∧ m < 1) ∨ (1900 ≤ y ∧ y ≤ 2199 ∧ 1 ≤ m ∧ 12 < m) := by omega
    clear ho T
    rcases hc with h | ⟨h, h1⟩ | ⟨h, h1, h2⟩ | ⟨h, h1, h2, h3⟩
    all_goals
      go_enter Tryd.func30, Tryd.ntmps30
      go_wp2
      go_ret
      exact ⟨rfl, rfl⟩
  · have h1 : 1900 ≤ y := by omega
    have h2 : y ≤ 2199 := by omega
    have c0 : w.cell? ⟨0, 0, none⟩ = some (.int .i64 31) := T.cell 0 (by omega)
    have c1 : w.cell? ⟨0, 1, none⟩ = some (.int .i64 28) := T.cell 1 (by omega)
    have c2 : w.cell? ⟨0, 2, none⟩ = some (.int .i64 31) := T.cell 2 (by omega)
    have c3 : w.cell? ⟨0, 3, none⟩ = some (.int .i64 30) := T.cell 3 (by omega)
    have c4 : w.cell? ⟨0, 4, none⟩ = some (.int .i64 31) := T.cell 4 (by omega)
    have c5 : w.cell? ⟨0, 5, none⟩ = some (.int .i64 30) := T.cell 5 (by omega)
    have c6 : w.cell? ⟨0, 6, none⟩ = some (.int .i64 31) := T.cell 6 (by omega)
    have c7 : w.cell? ⟨0, 7, none⟩ = some (.int .i64 31) := T.cell 7 (by omega)
    have c8 : w.cell? ⟨0, 8, none⟩ = some (.int .i64 30) := T.cell 8 (by omega)
    have c9 : w.cell? ⟨0, 9, none⟩ = some (.int .i64 31) := T.cell 9 (by omega)
    have c10 : w.cell? ⟨0, 10, none⟩ = some (.int .i64 30) := T.cell 10 (by omega)
    have c11 : w.cell? ⟨0, 11, none⟩ = some (.int .i64 31) := T.cell 11 (by omega)
    clear T
    by_cases hm : m = 2
    · subst hm
      clear c0 c2 c3 c4 c5 c6 c7 c8 c9 c10 c11
      by_cases hl : leapP y
      · have e2 : dm y 2 = 29 := by unfold dm; rw [if_neg ho, if_pos rfl, if_pos hl]
        have HL := Lib.hid (decide_eq_true hl)
        rw [e2]
        clear e2 ho hl
        go_enter Tryd.func30, Tryd.ntmps30
        go_wp2_with fail
        refine (leap_any y true (by omega) HL.out _).mono ?_
        rintro e w' ⟨rfl, rfl⟩
        go_wp2_with fail
        go_ret
        exact ⟨rfl, rfl⟩
      · have e2 : dm y 2 = 28 := by unfold dm; rw [if_neg ho, if_pos rfl, if_neg hl]
        have HL := Lib.hid (decide_eq_false hl)
        rw [e2]
        clear e2 ho hl
        go_enter Tryd.func30, Tryd.ntmps30
        go_wp2_with fail
        refine (leap_any y false (by omega) HL.out _).mono ?_
        rintro e w' ⟨rfl, rfl⟩
        go_wp2_with fail
        go_ret
        exact ⟨rfl, rfl⟩
    · have hc : m = 1 ∨ m = 3 ∨ m = 4 ∨ m = 5 ∨ m = 6 ∨ m = 7 ∨ m = 8 ∨ m = 9 ∨ m = 10 ∨ m = 11 ∨ m = 12 := by omega
      have hd : dm y m = if m = 4 ∨ m = 6 ∨ m = 9 ∨ m = 11 then 30 else 31 := by unfold dm; rw [if_neg ho, if_neg hm]
      rw [hd]
      clear hd ho hm
      rcases hc with rfl | rfl | rfl | rfl | rfl | rfl | rfl | rfl | rfl | rfl | rfl
      all_goals
        go_enter Tryd.func30, Tryd.ntmps30
        go_wp2
        go_ret
        exact ⟨rfl, rfl⟩

theorem yr_leap {y : Int} (h : 1900 ≤ y) (h' : y ≤ 2199) : yr y = if leapP y then 366 else 365 := by
  unfold yr dm
  rw [if_neg (by omega), if_pos rfl]
  split <;> rfl

theorem div4_up (p : Int) : (p + 1) / 4 = p / 4 + if (p + 1) % 4 = 0 then 1 else 0 := by split <;> omega
theorem div100_up (p : Int) : (p + 1) / 100 = p / 100 + if (p + 1) % 100 = 0 then 1 else 0 := by split <;> omega
theorem div400_up (p : Int) : (p + 1) / 400 = p / 400 + if (p + 1) % 400 = 0 then 1 else 0 := by split <;> omega
theorem leap_sum (p : Int) : (if p % 4 = 0 then (1 : Int) else 0) - (if p % 100 = 0 then 1 else 0) + (if p % 400 = 0 then 1 else 0) = if leapP p then 1 else 0 := by
  unfold leapP
  by_cases h4 : p % 4 = 0 <;> by_cases h1 : p % 100 = 0 <;> by_cases h5 : p % 400 = 0 <;> simp [h4, h1, h5] <;> omega

/-- the number of a year's first day -/
theorem ny_form (k : Nat) (h : k ≤ 300) : 365 * (1899 + (k : Int)) + (1899 + (k : Int)) / 4 - (1899 + (k : Int)) / 100 + (1899 + (k : Int)) / 400 - 719162 = cy k - 25567 := by
  induction k with
  | zero => decide
  | succ k ih =>
    have ih := ih (by omega)
    have e : cy (k + 1) = cy k + yr (1900 + (k : Int)) := rfl
    rw [yr_leap (by omega) (by omega)] at e
    have s := leap_sum (1900 + (k : Int))
    have e0 : 1899 + ((k + 1 : Nat) : Int) = (1899 + (k : Int)) + 1 := by omega
    have e1 : (1899 + (k : Int)) + 1 = 1900 + (k : Int) := by omega
    have d4 := div4_up (1899 + (k : Int))
    have d1 := div100_up (1899 + (k : Int))
    have d5 := div400_up (1899 + (k : Int))
    rw [e1] at d4 d1 d5
    rw [e0, e1, d4, d1, d5, e]
    have e6 : (if leapP (1900 + (k : Int)) then (366 : Int) else 365) = 365 + if leapP (1900 + (k : Int)) then 1 else 0 := by split <;> rfl
    rw [e6, ← s]
    omega
theorem ny_Cy {y : Int} (h : 1900 ≤ y) (h' : y ≤ 2200) : 365 * (y - 1) + (y - 1) / 4 - (y - 1) / 100 + (y - 1) / 400 - 719162 = Cy y - 25567 := by
  have e := ny_form (y - 1900).toNat (by omega)
  have e2 : 1899 + (((y - 1900).toNat : Nat) : Int) = y - 1 := by omega
  rw [e2] at e
  exact e

set_option maxHeartbeats 1000000 in
theorem newYear_any (y v : Int) (h : 1900 ≤ y) (h' : y ≤ 2200) (hv : Cy y - 25567 = v) (w : World) :
    Calls Tryd.prog 42 #[.int .i64 y] w fun e w' => e = .returned (.int .i64 v) ∧ w' = w := by
  have e := ny_Cy h h'
  rw [hv] at e
  have E := Lib.hid e
  clear e hv
  go_enter Tryd.func42, Tryd.ntmps42
  go_wp2
  go_ret
  exact ⟨retI E.out, rfl⟩
end Go.Proofs.YtpddnmkoiplmkaaDoor
