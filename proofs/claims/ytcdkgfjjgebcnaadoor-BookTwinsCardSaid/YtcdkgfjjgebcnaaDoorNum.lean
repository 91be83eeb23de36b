/- Plain numbers, no program in sight: one digit of a long division, a quotient rounded in four ways, and its magnitude. -/
import Derived.WalkKit
namespace Go.Proofs.YtcdkgfjjgebcnaaDoor.Num
open Go
set_option linter.unusedVariables false

/-! ### one digit of the long division of 128 bits by 64 -/

theorem mulsplit (q n1 n0 : Nat) : q * (n1 * 4294967296 + n0) = q * n1 * 4294967296 + q * n0 := by
  rw [Nat.mul_add, Nat.mul_assoc]

/-- the guess is not above the digit -/
theorem dig_le {q n1 n0 r u x : Nat} (hq : q * n1 + r = u) (h : q * n0 ≤ 4294967296 * r + x) (hpos : 0 < n1 * 4294967296 + n0) :
    q ≤ (u * 4294967296 + x) / (n1 * 4294967296 + n0) := by
  rw [Nat.le_div_iff_mul_le hpos, mulsplit]
  generalize q * n1 = p at *
  generalize q * n0 = s at *
  omega

/-- the guess is above the digit -/
theorem dig_gt {q n1 n0 r u x : Nat} (hq : q * n1 + r = u) (h : 4294967296 * r + x < q * n0) (hpos : 0 < n1 * 4294967296 + n0) :
    (u * 4294967296 + x) / (n1 * 4294967296 + n0) < q := by
  rw [Nat.div_lt_iff_lt_mul hpos, mulsplit]
  generalize q * n1 = p at *
  generalize q * n0 = s at *
  omega

theorem dig_lt {y u x : Nat} (hu : u < y) (hx : x < 4294967296) : (u * 4294967296 + x) / y < 4294967296 := by
  rw [Nat.div_lt_iff_lt_mul (by omega)]
  have : (u + 1) * 4294967296 ≤ y * 4294967296 := Nat.mul_le_mul_right _ hu
  rw [Nat.mul_comm 4294967296 y]
  omega

/-- the first guess is at most one above 2^32 -/
theorem dig_start {n1 n0 u : Nat} (hn1 : 2147483648 ≤ n1) (hn0 : n0 < 4294967296) (hu : u < n1 * 4294967296 + n0) : u / n1 ≤ 4294967297 := by
  have h : u / n1 < 4294967298 := by
    rw [Nat.div_lt_iff_lt_mul (by omega)]
    omega
  omega

theorem dig_start_le {n1 n0 u x : Nat} (hpos : 0 < n1) : (u * 4294967296 + x) / (n1 * 4294967296 + n0) ≤ (u * 4294967296 + x) / (n1 * 4294967296) := by
  apply Nat.div_le_div_left
  · omega
  · omega

theorem dig_first {n1 n0 u x : Nat} (hpos : 0 < n1) (hx : x < 4294967296) : (u * 4294967296 + x) / (n1 * 4294967296 + n0) ≤ u / n1 := by
  refine Nat.le_trans (dig_start_le hpos) ?_
  rw [Nat.mul_comm n1, ← Nat.div_div_eq_div_mul]
  have : (u * 4294967296 + x) / 4294967296 = u := by omega
  rw [this]
  exact Nat.le_refl _

theorem prod_small {q n0 : Nat} (hq : q ≤ 4294967297) (hn0 : n0 < 4294967296) : q * n0 ≤ 18446744073709551615 := by
  have : q * n0 ≤ 4294967297 * 4294967295 := Nat.mul_le_mul hq (by omega)
  omega

theorem prod_small' {q n0 : Nat} (hq : q ≤ 4294967296) (hn0 : n0 < 4294967296) : q * n0 < 18446744073709551616 := by
  have : q * n0 ≤ 4294967296 * 4294967295 := Nat.mul_le_mul hq (by omega)
  omega

/-- the relation of the guess's loop: q is the guess, r what is left of u, d the digit -/
def Dig (n1 n0 u x q r : Nat) : Prop :=
  q * n1 + r = u ∧ r < 4294967296 ∧ q ≤ 4294967297 ∧ (u * 4294967296 + x) / (n1 * 4294967296 + n0) ≤ q

theorem Dig.start {n1 n0 u x : Nat} (hn1 : 2147483648 ≤ n1) (hn1' : n1 < 4294967296) (hn0 : n0 < 4294967296) (hu : u < n1 * 4294967296 + n0) (hx : x < 4294967296) :
    Dig n1 n0 u x (u / n1) (u - u / n1 * n1) := by
  have h := Nat.div_add_mod u n1
  have hm := Nat.mod_lt u (show 0 < n1 by omega)
  have hc : u / n1 * n1 = n1 * (u / n1) := Nat.mul_comm _ _
  refine ⟨by omega, by omega, dig_start hn1 hn0 hu, dig_first (by omega) hx⟩

/-- the loop goes on: the guess is one less -/
theorem Dig.down {n1 n0 u x q r : Nat} (h : Dig n1 n0 u x q r) (hn1 : 2147483648 ≤ n1) (hu : u < n1 * 4294967296 + n0) (hx : x < 4294967296)
    (hc : 4294967296 ≤ q ∨ 4294967296 * r + x < q * n0) : (q - 1) * n1 + (r + n1) = u ∧ 1 ≤ q ∧ q - 1 ≤ 4294967296 ∧ (u * 4294967296 + x) / (n1 * 4294967296 + n0) ≤ q - 1 := by
  obtain ⟨a, b, c, d⟩ := h
  have hlt := dig_lt (x := x) hu hx
  have hq : (u * 4294967296 + x) / (n1 * 4294967296 + n0) < q := by
    rcases hc with hc | hc
    · omega
    · exact dig_gt a hc (by omega)
  have h1 : 1 ≤ q := Nat.lt_of_le_of_lt (Nat.zero_le _) hq
  refine ⟨?_, h1, by omega, by omega⟩
  obtain ⟨k, rfl⟩ : ∃ k, q = k + 1 := ⟨q - 1, by omega⟩
  rw [Nat.add_mul] at a
  simp only [Nat.add_sub_cancel]
  omega

/-- the loop ends by its test -/
theorem Dig.stop {n1 n0 u x q r : Nat} (h : Dig n1 n0 u x q r) (hn1 : 2147483648 ≤ n1)
    (hc : ¬ 4294967296 * r + x < q * n0) : q = (u * 4294967296 + x) / (n1 * 4294967296 + n0) := by
  obtain ⟨a, b, c, d⟩ := h
  have := dig_le (x := x) a (by omega) (show 0 < n1 * 4294967296 + n0 by omega)
  omega

/-- the loop ends by its break -/
theorem Dig.broke {n1 n0 u x q r : Nat} (hn1 : 2147483648 ≤ n1) (hn0 : n0 < 4294967296) (a : q * n1 + r = u) (hq : q ≤ 4294967296)
    (d : (u * 4294967296 + x) / (n1 * 4294967296 + n0) ≤ q) (hr : 4294967296 ≤ r) : q = (u * 4294967296 + x) / (n1 * 4294967296 + n0) := by
  have := prod_small' hq hn0
  have := dig_le (x := x) a (by omega) (show 0 < n1 * 4294967296 + n0 by omega)
  omega

theorem Dig.go_on {n1 n0 u x : Nat} {q r m : Int} (h : Dig n1 n0 u x q.toNat r.toNat) (hq0 : 0 ≤ q) (hr0 : 0 ≤ r) (hn1 : 2147483648 ≤ n1) (hn0 : n0 < 4294967296)
    (hu : u < n1 * 4294967296 + n0) (hx : x < 4294967296) (hm : m = ((q.toNat * n0 : Nat) : Int)) (hc : 4294967296 ≤ q ∨ 4294967296 * r + (x : Int) < m) :
    1 ≤ q ∧ (r + (n1 : Int) < 4294967296 → Dig n1 n0 u x (q - 1).toNat (r + (n1 : Int)).toNat) ∧
    (4294967296 ≤ r + (n1 : Int) → q = (((u * 4294967296 + x) / (n1 * 4294967296 + n0) : Nat) : Int) + 1) := by
  have hc' : 4294967296 ≤ q.toNat ∨ 4294967296 * r.toNat + x < q.toNat * n0 := by
    rcases hc with hc | hc
    · left; omega
    · right; rw [hm] at hc; generalize q.toNat * n0 = k at *; omega
  obtain ⟨a, b, c, d⟩ := h.down hn1 hu hx hc'
  have e1 : (q - 1).toNat = q.toNat - 1 := by omega
  have e2 : (r + (n1 : Int)).toNat = r.toNat + n1 := by omega
  refine ⟨by omega, fun hr => ?_, fun hr => ?_⟩
  · rw [e1, e2]
    exact ⟨a, by omega, by omega, d⟩
  · have := Dig.broke hn1 hn0 a c d (by omega)
    rw [← this]
    omega

theorem Dig.ends {n1 n0 u x : Nat} {q r m : Int} (h : Dig n1 n0 u x q.toNat r.toNat) (hq0 : 0 ≤ q) (hr0 : 0 ≤ r) (hn1 : 2147483648 ≤ n1)
    (hm : m = ((q.toNat * n0 : Nat) : Int)) (hc : ¬ 4294967296 * r + (x : Int) < m) :
    q = (((u * 4294967296 + x) / (n1 * 4294967296 + n0) : Nat) : Int) := by
  have := h.stop hn1 (by rw [hm] at hc; generalize q.toNat * n0 = k at *; omega)
  rw [← this]
  omega

theorem digit_rest {y v : Nat} : v - v / y * y = v % y := by
  have h := Nat.div_add_mod v y
  rw [Nat.mul_comm] at h
  omega

/-- two digits are the quotient of four -/
theorem two_digits' (B : Nat) {y v x0 : Nat} (hy : 0 < y) :
    (v * B + x0) / y = v / y * B + (v % y * B + x0) / y ∧ (v * B + x0) % y = (v % y * B + x0) % y := by
  have h := Nat.div_add_mod v y
  have e : v * B + x0 = (v % y * B + x0) + y * (v / y * B) := by
    have : v * B = y * (v / y * B) + v % y * B := by
      rw [← Nat.mul_assoc, ← Nat.add_mul, h]
    omega
  constructor
  · rw [e, Nat.add_mul_div_left _ _ hy]; omega
  · rw [e, Nat.add_mul_mod_self_left]

theorem two_digits {y u x1 x0 : Nat} (hy : 0 < y) :
    ((u * 4294967296 + x1) * 4294967296 + x0) / y = (u * 4294967296 + x1) / y * 4294967296 + ((u * 4294967296 + x1) % y * 4294967296 + x0) / y ∧
    ((u * 4294967296 + x1) * 4294967296 + x0) % y = ((u * 4294967296 + x1) % y * 4294967296 + x0) % y :=
  two_digits' 4294967296 hy

/-- both numbers shifted left alike: the same quotient, the rest shifted -/
theorem shifted {n y p : Nat} (hp : 0 < p) : n * p / (y * p) = n / y ∧ n * p % (y * p) / p = n % y := by
  constructor
  · exact Nat.mul_div_mul_right _ _ hp
  · rw [Nat.mul_mod_mul_right, Nat.mul_div_cancel _ hp]

theorem spread (B a b p : Nat) : (a * B + b) * p = a * p * B + b * p := by
  rw [Nat.add_mul, Nat.mul_right_comm]

theorem glue {H K T U X1 X0 : Nat} (hL : K = T * 18446744073709551616 + K % 18446744073709551616) (hU : U = H + T) (h1 : X1 = K % 18446744073709551616 / 4294967296)
    (h0 : X0 = K % 18446744073709551616 % 4294967296) : H * 18446744073709551616 + K = (U * 4294967296 + X1) * 4294967296 + X0 := by
  generalize K % 18446744073709551616 = R at *
  omega

end Go.Proofs.YtcdkgfjjgebcnaaDoor.Num
