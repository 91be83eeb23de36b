/- Plain numbers: a quotient rounded in four ways; whether a number has room in 64 bits. No program in sight. -/
import Derived.WalkKit
namespace Go.Proofs.YtcdkgfjjgebcnaaDoor
open Go
set_option linter.unusedVariables false

/-- has it room in 64 bits with a sign? the error's number -/
def ovE (n : Int) : Int := if -9223372036854775808 ≤ n ∧ n ≤ 9223372036854775807 then 0 else 3
/-- the number, if it has room, else 0 -/
def ovV (n : Int) : Int := if -9223372036854775808 ≤ n ∧ n ≤ 9223372036854775807 then n else 0

theorem ov_in {n : Int} (h : -9223372036854775808 ≤ n ∧ n ≤ 9223372036854775807) : ovV n = n ∧ ovE n = 0 := by
  unfold ovV ovE; rw [if_pos h, if_pos h]; exact ⟨rfl, rfl⟩
theorem ov_out {n : Int} (h : ¬ (-9223372036854775808 ≤ n ∧ n ≤ 9223372036854775807)) : ovV n = 0 ∧ ovE n = 3 := by
  unfold ovV ovE; rw [if_neg h, if_neg h]; exact ⟨rfl, rfl⟩

/-- n by c (above 0), rounded: 1 down, 2 up, 3 to the nearest, halves away from 0, 4 halves to even -/
def rndC (m n c : Int) : Int :=
  if n % c = 0 ∨ m = 1 then n / c else if m = 2 then n / c + 1 else if 2 * (n % c) < c then n / c else if c < 2 * (n % c) then n / c + 1
  else if (m = 4 ∧ n / c % 2 = 0) ∨ (m = 3 ∧ n < 0) then n / c else n / c + 1

def rnd (m n c : Int) : Int := if c < 0 then rndC m (-n) (-c) else rndC m n c

/-- is the quotient's size rounded away from 0? -/
def awayB (q r c : Int) (neg : Bool) (m : Int) : Bool :=
  if m = 1 then neg && decide (0 < r) else if m = 2 then !neg && decide (0 < r) else if m = 3 then decide (c - r ≤ r)
  else decide (c - r < r) || (decide (r = c - r) && decide (q % 2 = 1))

def bump (b : Bool) : Int := if b then 1 else 0

theorem divmod_pos {q r c : Int} (hc : 0 < c) (h0 : 0 ≤ r) (h1 : r < c) : (q * c + r) / c = q ∧ (q * c + r) % c = r := by
  constructor
  · rw [Int.add_comm, Int.add_mul_ediv_right _ _ (by omega), Int.ediv_eq_zero_of_lt h0 h1]; omega
  · rw [Int.add_comm, Int.add_mul_emod_self_right]; exact Int.emod_eq_of_lt h0 h1

theorem divmod_neg {q r c : Int} (hc : 0 < c) (h0 : 0 < r) (h1 : r < c) : (-(q * c + r)) / c = -q - 1 ∧ (-(q * c + r)) % c = c - r := by
  have e : -(q * c + r) = (-q - 1) * c + (c - r) := by rw [Int.sub_mul, Int.neg_mul]; omega
  rw [e]
  exact divmod_pos hc (by omega) (by omega)

theorem divmod_neg0 {q c : Int} (hc : 0 < c) : (-(q * c)) / c = -q ∧ (-(q * c)) % c = 0 := by
  have e : -(q * c) = (-q) * c + 0 := by rw [Int.neg_mul]; omega
  rw [e]
  exact divmod_pos hc (by omega) (by omega)

theorem rndC_pos {m q r c : Int} (hc : 0 < c) (h0 : 0 ≤ r) (h1 : r < c) (hq : 0 ≤ q) (hm : 1 ≤ m ∧ m ≤ 4) : rndC m (q * c + r) c = q + bump (awayB q r c false m) := by
  obtain ⟨d, e⟩ := divmod_pos (q := q) hc h0 h1
  have hn : ¬ q * c + r < 0 := by have := Int.mul_nonneg hq (show 0 ≤ c by omega); omega
  unfold rndC awayB bump
  rw [d, e]
  have : m = 1 ∨ m = 2 ∨ m = 3 ∨ m = 4 := by omega
  rcases this with rfl | rfl | rfl | rfl
  · simp
  · by_cases hr : r = 0
    · simp [hr]
    · have : 0 < r := by omega
      simp [hr, this]
  · by_cases hr : r = 0
    · have : ¬ c - r ≤ r := by omega
      simp [hr]; omega
    · by_cases h2 : 2 * r < c
      · have : ¬ c - r ≤ r := by omega
        simp [hr, h2, this]
      · have : c - r ≤ r := by omega
        simp [hr, h2, this]
        omega
  · by_cases hr : r = 0
    · have a : ¬ c - 0 < 0 := by omega
      have b : ¬ 0 = c - 0 := by omega
      simp [hr]; omega
    · by_cases h2 : 2 * r < c
      · have a : ¬ c - r < r := by omega
        have b : ¬ r = c - r := by omega
        simp [hr, h2, a, b]
      · by_cases h3 : c < 2 * r
        · have a : c - r < r := by omega
          simp [hr, h2, a, h3]
        · have a : ¬ c - r < r := by omega
          have b : r = c - r := by omega
          by_cases h4 : q % 2 = 0
          · have h5 : ¬ q % 2 = 1 := by omega
            simp [hr, h2, a, h3, h4]
          · have h5 : q % 2 = 1 := by omega
            simp [hr, h2, a, h3, h5]
            omega

theorem rndC_neg {m q r c : Int} (hc : 0 < c) (h0 : 0 ≤ r) (h1 : r < c) (hq : 0 ≤ q) (hm : 1 ≤ m ∧ m ≤ 4) : rndC m (-(q * c + r)) c = -(q + bump (awayB q r c true m)) := by
  by_cases hr : r = 0
  · subst hr
    obtain ⟨d, e⟩ := divmod_neg0 (q := q) hc
    unfold rndC awayB bump
    rw [Int.add_zero, d, e, if_pos (Or.inl rfl)]
    have a : ¬ c - 0 < 0 := by omega
    have a' : ¬ c < 0 := by omega
    have a'' : ¬ c ≤ 0 := by omega
    have b : ¬ 0 = c - 0 := by omega
    have b' : ¬ 0 = c := by omega
    have : m = 1 ∨ m = 2 ∨ m = 3 ∨ m = 4 := by omega
    rcases this with rfl | rfl | rfl | rfl <;> simp [a', a'', b']
  · have hr' : 0 < r := by omega
    obtain ⟨d, e⟩ := divmod_neg (q := q) hc hr' h1
    have hn : -(q * c + r) < 0 := by have := Int.mul_nonneg hq (show 0 ≤ c by omega); omega
    unfold rndC awayB bump
    rw [d, e]
    have e0 : ¬ c - r = 0 := by omega
    have : m = 1 ∨ m = 2 ∨ m = 3 ∨ m = 4 := by omega
    rcases this with rfl | rfl | rfl | rfl
    · simp [hr']; omega
    · simp [e0]
    · by_cases h2 : 2 * (c - r) < c
      · have a : c - r ≤ r := by omega
        simp [e0, h2, a]; omega
      · by_cases h3 : c < 2 * (c - r)
        · have a : ¬ c - r ≤ r := by omega
          simp [e0, h2, h3, a]
        · have a : c - r ≤ r := by omega
          simp [e0, h2, h3, a]; omega
    · by_cases h2 : 2 * (c - r) < c
      · have a : c - r < r := by omega
        simp [e0, h2, a]; omega
      · by_cases h3 : c < 2 * (c - r)
        · have a : ¬ c - r < r := by omega
          have b : ¬ r = c - r := by omega
          simp [e0, h2, h3, a, b]
        · have a : ¬ c - r < r := by omega
          have b : r = c - r := by omega
          by_cases h4 : q % 2 = 0
          · have h5 : ¬ (-q - 1) % 2 = 0 := by omega
            simp [e0, h2, h3, a, h4, h5]
          · have h5 : (-q - 1) % 2 = 0 := by omega
            have h6 : q % 2 = 1 := by omega
            have b' : c - r = r := by omega
            simp [h5, h6, b']; omega

/-- what MulDiv tells -/
def mdE (a b c m : Int) : Int := if c = 0 ∨ m < 1 ∨ 4 < m then 1 else ovE (rnd m (a * b) c)
def mdV (a b c m : Int) : Int := if c = 0 ∨ m < 1 ∨ 4 < m then 0 else ovV (rnd m (a * b) c)

/-- a number's size -/
def mag (a : Int) : Int := if a < 0 then -a else a
/-- is the quotient below 0, if it is not 0? -/
def sgn (a b c : Int) : Bool := ((decide (a < 0) != decide (b < 0)) != decide (c < 0))

/-- out of the sizes' quotient and rest -/
theorem rnd_mag {a b c m q r : Int} (hc : c ≠ 0) (h : mag a * mag b = q * mag c + r) (h0 : 0 ≤ r) (h1 : r < mag c) (hq : 0 ≤ q) (hm : 1 ≤ m ∧ m ≤ 4) :
    rnd m (a * b) c = if sgn a b c then -(q + bump (awayB q r (mag c) true m)) else q + bump (awayB q r (mag c) false m) := by
  have hcp : 0 < mag c := by unfold mag; split <;> omega
  have hp := rndC_pos hcp h0 h1 hq hm
  have hn := rndC_neg hcp h0 h1 hq hm
  rw [← h] at hp hn
  unfold rnd sgn
  unfold mag at hp hn ⊢
  by_cases ha : a < 0 <;> by_cases hb : b < 0 <;> by_cases hcc : c < 0 <;> simp [ha, hb, hcc, Int.neg_mul, Int.mul_neg] at hp hn ⊢ <;> assumption

/-! ### what follows -/

theorem rnd_signs (m a b c : Int) (hc : c ≠ 0) : rnd m (a * -b) (-c) = rnd m (a * b) c := by
  unfold rnd
  by_cases h : c < 0
  · rw [if_pos h, if_neg (by omega), Int.mul_neg]
  · rw [if_neg h, if_pos (by omega), Int.mul_neg, Int.neg_neg, Int.neg_neg]

theorem rnd_whole (m a b : Int) (hb : b ≠ 0) : rnd m (a * b) b = a := by
  unfold rnd rndC
  by_cases h : b < 0
  · rw [if_pos h, ← Int.mul_neg, if_pos (Or.inl (Int.mul_emod_left _ _)), Int.mul_ediv_cancel _ (by omega)]
  · rw [if_neg h, if_pos (Or.inl (Int.mul_emod_left _ _)), Int.mul_ediv_cancel _ (by omega)]

theorem rndC_near (n c : Int) : rndC 1 n c ≤ rndC 2 n c ∧ (rndC 1 n c = rndC 2 n c ∨ rndC 2 n c = rndC 1 n c + 1) ∧
    (rndC 3 n c = rndC 1 n c ∨ rndC 3 n c = rndC 2 n c) ∧ (rndC 4 n c = rndC 1 n c ∨ rndC 4 n c = rndC 2 n c) := by
  by_cases h : n % c = 0
  · have e : ∀ m, rndC m n c = n / c := fun m => by unfold rndC; rw [if_pos (Or.inl h)]
    rw [e, e, e, e]
    exact ⟨Int.le_refl _, Or.inl rfl, Or.inl rfl, Or.inl rfl⟩
  · have e1 : rndC 1 n c = n / c := by unfold rndC; rw [if_pos (Or.inr rfl)]
    have e2 : rndC 2 n c = n / c + 1 := by unfold rndC; rw [if_neg (by omega), if_pos rfl]
    have e : ∀ m, rndC m n c = n / c ∨ rndC m n c = n / c + 1 := fun m => by
      unfold rndC
      split
      · exact Or.inl rfl
      · split
        · exact Or.inr rfl
        · split
          · exact Or.inl rfl
          · split
            · exact Or.inr rfl
            · split
              · exact Or.inl rfl
              · exact Or.inr rfl
    rw [e1, e2]
    exact ⟨by omega, Or.inr rfl, e 3, e 4⟩

theorem rnd_near (n c : Int) : rnd 1 n c ≤ rnd 2 n c ∧ (rnd 1 n c = rnd 2 n c ∨ rnd 2 n c = rnd 1 n c + 1) ∧
    (rnd 3 n c = rnd 1 n c ∨ rnd 3 n c = rnd 2 n c) ∧ (rnd 4 n c = rnd 1 n c ∨ rnd 4 n c = rnd 2 n c) := by
  unfold rnd
  split
  · exact rndC_near _ _
  · exact rndC_near _ _

theorem rnd_one (m n : Int) : rnd m n 1 = n := by simp [rnd, rndC]
end Go.Proofs.YtcdkgfjjgebcnaaDoor
