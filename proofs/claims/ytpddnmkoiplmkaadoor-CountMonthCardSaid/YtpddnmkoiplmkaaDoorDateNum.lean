/- Plain numbers of layer 4: days of the calendar. No program in sight. -/
import Derived.WalkKit
namespace Go.Proofs.YtpddnmkoiplmkaaDoor
open Go
set_option linter.unusedVariables false

/-- has the year a day more? -/
def leapP (y : Int) : Prop := y % 400 = 0 ∨ (y % 4 = 0 ∧ ¬ y % 100 = 0)
instance (y : Int) : Decidable (leapP y) := by unfold leapP; infer_instance

/-- how many days a month has; 0: there is none -/
def dm (y m : Int) : Int :=
  if y < 1900 ∨ 2199 < y ∨ m < 1 ∨ 12 < m then 0
  else if m = 2 then (if leapP y then 29 else 28)
  else if m = 4 ∨ m = 6 ∨ m = 9 ∨ m = 11 then 30 else 31

theorem dm_out {y m : Int} (h : y < 1900 ∨ 2199 < y ∨ m < 1 ∨ 12 < m) : dm y m = 0 := by unfold dm; rw [if_pos h]
theorem dm_in {y m : Int} (h : ¬ (y < 1900 ∨ 2199 < y ∨ m < 1 ∨ 12 < m)) : 28 ≤ dm y m ∧ dm y m ≤ 31 := by
  unfold dm
  rw [if_neg h]
  split
  · split <;> omega
  · split <;> omega
theorem dm_bound (y m : Int) : 0 ≤ dm y m ∧ dm y m ≤ 31 := by
  by_cases h : y < 1900 ∨ 2199 < y ∨ m < 1 ∨ 12 < m
  · rw [dm_out h]; omega
  · have := dm_in h; omega

/-- is it a date? -/
def mayD (y m d : Int) : Prop := 1 ≤ d ∧ d ≤ dm y m
instance (y m d : Int) : Decidable (mayD y m d) := by unfold mayD; infer_instance

theorem mayD_in {y m d : Int} (h : mayD y m d) : 1900 ≤ y ∧ y ≤ 2199 ∧ 1 ≤ m ∧ m ≤ 12 ∧ 1 ≤ d ∧ d ≤ 31 := by
  obtain ⟨h1, h2⟩ := h
  by_cases c : y < 1900 ∨ 2199 < y ∨ m < 1 ∨ 12 < m
  · rw [dm_out c] at h2; omega
  · have := dm_in c; omega

/-- the days of the first k months -/
def sm (y : Int) : Nat → Int
  | 0 => 0
  | k + 1 => sm y k + dm y ((k : Int) + 1)

/-- a year's days -/
def yr (y : Int) : Int := 337 + dm y 2

/-- the days of the first k years from 1900 on -/
def cy : Nat → Int
  | 0 => 0
  | k + 1 => cy k + yr (1900 + (k : Int))

theorem yr_bound (y : Int) : 337 ≤ yr y ∧ yr y ≤ 366 := by
  unfold yr
  have h := dm_bound y 2
  unfold dm at h ⊢
  split
  · omega
  · rw [if_pos rfl]; split <;> omega

theorem yr_in {y : Int} (h : 1900 ≤ y) (h' : y ≤ 2199) : 365 ≤ yr y ∧ yr y ≤ 366 := by
  unfold yr dm
  rw [if_neg (by omega), if_pos rfl]
  split <;> omega

theorem sm_le {y : Int} {k n : Nat} (h : k ≤ n) : sm y k ≤ sm y n := by
  induction n with
  | zero => have : k = 0 := by omega
            subst this; exact Int.le_refl _
  | succ n ih =>
    by_cases e : k = n + 1
    · subst e; exact Int.le_refl _
    · have := ih (by omega)
      have := (dm_bound y ((n : Int) + 1)).1
      simp only [sm]
      omega

theorem sm_nonneg (y : Int) (k : Nat) : 0 ≤ sm y k := sm_le (Nat.zero_le k)

theorem sm_year {y : Int} (h : 1900 ≤ y) (h' : y ≤ 2199) : sm y 12 = yr y := by
  unfold yr
  simp only [sm, dm]
  have h1 : ¬ (y < 1900 ∨ 2199 < y) := by omega
  have h2 : ¬ y < 1900 := by omega
  have h3 : ¬ 2199 < y := by omega
  simp [h2, h3]
  split <;> omega

theorem cy_le {k n : Nat} (h : k ≤ n) : cy k ≤ cy n := by
  induction n with
  | zero => have : k = 0 := by omega
            subst this; exact Int.le_refl _
  | succ n ih =>
    by_cases e : k = n + 1
    · subst e; exact Int.le_refl _
    · have := ih (by omega)
      have := (yr_bound (1900 + (n : Int))).1
      simp only [cy]
      omega

theorem cy_70 : cy 70 = 25567 := by decide +kernel
theorem cy_300 : cy 300 = 109573 := by decide +kernel

/-- a date's number -/
def numD (y m d : Int) : Int := d - 1 + sm y (m - 1).toNat + cy (y - 1900).toNat - 25567

theorem day_in {y m d : Int} (h : mayD y m d) : 0 ≤ d - 1 + sm y (m - 1).toNat ∧ d - 1 + sm y (m - 1).toNat < yr y := by
  obtain ⟨h1, h2, h3, h4, h5, h6⟩ := mayD_in h
  have a := sm_nonneg y (m - 1).toNat
  have b : sm y ((m - 1).toNat + 1) = sm y (m - 1).toNat + dm y (((m - 1).toNat : Int) + 1) := rfl
  have e : (((m - 1).toNat : Nat) : Int) + 1 = m := by omega
  rw [e] at b
  have c := sm_le (y := y) (k := (m - 1).toNat + 1) (n := 12) (by omega)
  rw [sm_year h1 h2] at c
  have := h.2
  omega

theorem num_bound {y m d : Int} (h : mayD y m d) : -25567 ≤ numD y m d ∧ numD y m d ≤ 84005 := by
  obtain ⟨h1, h2, h3, h4, h5, h6⟩ := mayD_in h
  have a := day_in h
  have b := cy_le (Nat.zero_le (y - 1900).toNat)
  have c := cy_le (k := (y - 1900).toNat + 1) (n := 300) (by omega)
  have d' : cy ((y - 1900).toNat + 1) = cy (y - 1900).toNat + yr (1900 + (((y - 1900).toNat : Nat) : Int)) := rfl
  have e : 1900 + (((y - 1900).toNat : Nat) : Int) = y := by omega
  rw [e] at d'
  rw [cy_300] at c
  have z : cy 0 = 0 := rfl
  unfold numD
  omega

/-- one number, one date -/
theorem num_one {y m d y' m' d' : Int} (h : mayD y m d) (h' : mayD y' m' d') (e : numD y m d = numD y' m' d') : y = y' ∧ m = m' ∧ d = d' := by
  obtain ⟨h1, h2, h3, h4, h5, h6⟩ := mayD_in h
  obtain ⟨g1, g2, g3, g4, g5, g6⟩ := mayD_in h'
  have a := day_in h
  have a' := day_in h'
  have key : ∀ {u v : Int} {p q : Int}, 1900 ≤ u → u ≤ 2199 → 1900 ≤ v → v ≤ 2199 → 0 ≤ q → p < yr u → p + cy (u - 1900).toNat = q + cy (v - 1900).toNat → v ≤ u := by
    intro u v p q u1 u2 v1 v2 hq hp hpq
    refine Int.le_of_not_gt fun hlt => ?_
    have c := cy_le (k := (u - 1900).toNat + 1) (n := (v - 1900).toNat) (by omega)
    have d0 : cy ((u - 1900).toNat + 1) = cy (u - 1900).toNat + yr (1900 + (((u - 1900).toNat : Nat) : Int)) := rfl
    have e0 : 1900 + (((u - 1900).toNat : Nat) : Int) = u := by omega
    rw [e0] at d0
    omega
  unfold numD at e
  have r1 := key (p := d - 1 + sm y (m - 1).toNat) (q := d' - 1 + sm y' (m' - 1).toNat) h1 h2 g1 g2 a'.1 a.2 (by omega)
  have r2 := key (p := d' - 1 + sm y' (m' - 1).toNat) (q := d - 1 + sm y (m - 1).toNat) g1 g2 h1 h2 a.1 a'.2 (by omega)
  obtain rfl : y = y' := by omega
  have keyM : ∀ {u v p q : Int}, 1 ≤ u → u ≤ 12 → 1 ≤ v → v ≤ 12 → 1 ≤ q → p ≤ dm y u → p + sm y (u - 1).toNat = q + sm y (v - 1).toNat → v ≤ u := by
    intro u v p q u1 u2 v1 v2 hq hp hpq
    refine Int.le_of_not_gt fun hlt => ?_
    have c := sm_le (y := y) (k := (u - 1).toNat + 1) (n := (v - 1).toNat) (by omega)
    have d0 : sm y ((u - 1).toNat + 1) = sm y (u - 1).toNat + dm y (((u - 1).toNat : Int) + 1) := rfl
    have e0 : (((u - 1).toNat : Nat) : Int) + 1 = u := by omega
    rw [e0] at d0
    omega
  have s1 := keyM h3 h4 g3 g4 h'.1 h.2 (by omega)
  have s2 := keyM g3 g4 h3 h4 h.1 h'.2 (by omega)
  obtain rfl : m = m' := by omega
  exact ⟨rfl, rfl, by omega⟩

/-- the next day -/
theorem num_next {y m d : Int} (h : mayD y m d) :
    (d < dm y m ∧ mayD y m (d + 1) ∧ numD y m (d + 1) = numD y m d + 1) ∨
    (d = dm y m ∧ m < 12 ∧ mayD y (m + 1) 1 ∧ numD y (m + 1) 1 = numD y m d + 1) ∨
    (d = 31 ∧ m = 12 ∧ y < 2199 ∧ mayD (y + 1) 1 1 ∧ numD (y + 1) 1 1 = numD y m d + 1) ∨ (d = 31 ∧ m = 12 ∧ y = 2199) := by
  obtain ⟨h1, h2, h3, h4, h5, h6⟩ := mayD_in h
  have hd := h.2
  by_cases c : d < dm y m
  · refine Or.inl ⟨c, ⟨by omega, by omega⟩, ?_⟩
    unfold numD; omega
  · have e : d = dm y m := by omega
    have sm1 : sm y ((m - 1).toNat + 1) = sm y (m - 1).toNat + dm y (((m - 1).toNat : Int) + 1) := rfl
    have e0 : (((m - 1).toNat : Nat) : Int) + 1 = m := by omega
    rw [e0] at sm1
    by_cases c2 : m < 12
    · refine Or.inr (Or.inl ⟨e, c2, ?_, ?_⟩)
      · have := dm_in (y := y) (m := m + 1) (by omega)
        exact ⟨by omega, by omega⟩
      · unfold numD
        have e1 : (m + 1 - 1).toNat = (m - 1).toNat + 1 := by omega
        rw [e1, sm1]
        omega
    · obtain rfl : m = 12 := by omega
      have e31 : dm y 12 = 31 := by unfold dm; rw [if_neg (by omega), if_neg (by omega), if_neg (by omega)]
      rw [e31] at e
      by_cases c3 : y < 2199
      · refine Or.inr (Or.inr (Or.inl ⟨e, rfl, c3, ?_, ?_⟩))
        · have := dm_in (y := y + 1) (m := 1) (by omega)
          exact ⟨by omega, by omega⟩
        · have s := sm_year h1 h2
          have e1 : ((12 : Int) - 1).toNat + 1 = 12 := by decide
          rw [e1, s, e31] at sm1
          have cs : cy ((y - 1900).toNat + 1) = cy (y - 1900).toNat + yr (1900 + (((y - 1900).toNat : Nat) : Int)) := rfl
          have e2 : 1900 + (((y - 1900).toNat : Nat) : Int) = y := by omega
          rw [e2] at cs
          unfold numD
          have e3 : (y + 1 - 1900).toNat = (y - 1900).toNat + 1 := by omega
          have e4 : sm (y + 1) ((1 : Int) - 1).toNat = 0 := rfl
          rw [e3, e4, cs]
          omega
      · exact Or.inr (Or.inr (Or.inr ⟨e, rfl, by omega⟩))

/-- so many months behind: the year and the month -/
def mvY (y m n : Int) : Int := (y * 12 + (m - 1) + n) / 12
def mvM (y m n : Int) : Int := (y * 12 + (m - 1) + n) % 12 + 1

theorem mv_zero {y m : Int} (h : 1 ≤ m) (h' : m ≤ 12) : mvY y m 0 = y ∧ mvM y m 0 = m := by unfold mvY mvM; omega
theorem mv_room (y m n : Int) : 1 ≤ mvM y m n ∧ mvM y m n ≤ 12 := by unfold mvM; omega
theorem mv_add (y m a b : Int) : mvY (mvY y m a) (mvM y m a) b = mvY y m (a + b) ∧ mvM (mvY y m a) (mvM y m a) b = mvM y m (a + b) := by unfold mvY mvM; omega
end Go.Proofs.YtpddnmkoiplmkaaDoor
