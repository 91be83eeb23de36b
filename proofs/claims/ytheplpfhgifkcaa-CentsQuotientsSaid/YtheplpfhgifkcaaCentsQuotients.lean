/- The walk of CentsQuotients: any quotient of a product, rounded in any way, or what is amiss. -/
import Derived.Test.YtheplpfhgifkcaaRef9
import Derived.Test.YtheplpfhgifkcaaCentsNear
namespace Go.Proofs.Ytheplpfhgifkcaa
open Go Go.RowKit
set_option linter.unusedVariables false

theorem rndC_near_div (m n c : Int) : rndC m n c = n / c ∨ rndC m n c = n / c + 1 := by
  unfold rndC
  split
  · exact Or.inl rfl
  · split
    · exact Or.inr rfl
    · split
      · exact Or.inl rfl
      · split
        · exact Or.inr rfl
        · split
          · exact Or.inl rfl
          · exact Or.inr rfl

theorem div_size {n c : Int} (hc : 0 < c) : (n / c).natAbs ≤ n.natAbs + c.natAbs := by
  have h1 := Int.emod_add_mul_ediv n c
  rw [Int.mul_comm] at h1
  have h2 := Int.emod_nonneg n (show c ≠ 0 by omega)
  have h3 := Int.emod_lt_of_pos n hc
  have h5 : (n / c).natAbs ≤ (n / c * c).natAbs := by rw [Int.natAbs_mul]; exact Nat.le_mul_of_pos_right _ (by omega)
  generalize n / c * c = y at h1 h5
  generalize n / c = q at h5 ⊢
  generalize n % c = r at h1 h2 h3
  omega

theorem rnd_size {m n c : Int} (hc : c ≠ 0) : (rnd m n c).natAbs ≤ n.natAbs + c.natAbs + 1 := by
  unfold rnd
  split
  · have := div_size (n := -n) (c := -c) (by omega)
    rcases rndC_near_div m (-n) (-c) with h | h <;> rw [h] <;> omega
  · have := div_size (n := n) (c := c) (by omega)
    rcases rndC_near_div m n c with h | h <;> rw [h] <;> omega

theorem small_128 (x : Int) (h : x.natAbs ≤ 4 * 340282366920938463463374607431768211456) : Small x := by
  have e : 4 * (340282366920938463463374607431768211456 : Nat) < 65536 ^ 60 := by decide
  exact Nat.lt_of_le_of_lt h e

set_option maxHeartbeats 2000000 in
theorem refMulDiv_walk (a b c mode r : Int) (w : World) (ha : -9223372036854775808 ≤ a ∧ a ≤ 9223372036854775807) (hb : -9223372036854775808 ≤ b ∧ b ≤ 9223372036854775807)
    (hc : -9223372036854775808 ≤ c ∧ c ≤ 9223372036854775807) (hc0 : c ≠ 0) (hmode : Hid (1 ≤ mode ∧ mode ≤ 4)) (hr : Hid (rnd mode (a * b) c = r))
    (sm : Hid (Small a ∧ Small b ∧ Small r)) (hp : Hid ((a * b).natAbs < 340282366920938463463374607431768211456 ∧ c.natAbs < 340282366920938463463374607431768211456)) :
    Calls Try.prog 23 #[.int .i64 a, .int .i64 b, .int .i64 c, .int .i64 mode] w fun e w' => e = .returned (.tuple #[.int .i64 (ovV r), .bool (inR r)]) ∧ Below w.heap.size w w' := by
  have HC0 := Lib.hid hc0
  clear hc0
  go_enter Try.func23, Try.ntmps23
  go_wp2_with fail
  refine (of_any a ha _).mono ?_
  rintro e w1 ⟨u1, rfl, N1, P1⟩
  go_wp2_with fail
  refine (of_any b hb _).mono ?_
  rintro e w2 ⟨u2, rfl, N2, P2⟩
  go_wp2_with fail
  refine (mulN_any u1 u2 a b _ (N1.up P2) N2 sm.out.1 sm.out.2.1).mono ?_
  rintro e w3 ⟨u3, rfl, N3, P3⟩
  go_wp2_with fail
  refine (of_any c hc _).mono ?_
  rintro e w4 ⟨u4, rfl, N4, P4⟩
  go_wp2_with fail
  refine (quo_walk u3 u4 (a * b) c mode 340282366920938463463374607431768211456 _ (N3.up P4) N4 HC0.out small_128 hp.out.1 hp.out.2 hmode.out).mono ?_
  rintro e w5 ⟨u5, rfl, N5, P5⟩
  rw [hr.out] at N5
  have B5 : Below w.heap.size w w5 := by
    have b1 := P1
    have b2 := b1.trans (P2.mono b1.size)
    have b3 := b2.trans (P3.mono b2.size)
    have b4 := b3.trans (P4.mono b3.size)
    exact b4.trans (P5.mono b4.size)
  go_wp2_with fail
  refine (to_any u5 r _ N5 sm.out.2.2).mono ?_
  rintro e w6 ⟨x, rfl, hx, P6⟩
  have B6 := B5.trans (P6.mono B5.size)
  cases hin : inR r with
  | true =>
    obtain ⟨e1, e2⟩ := inR_true hin
    rw [hx hin]
    have H1 := Lib.hid hin
    have H2 := Lib.hid e1
    clear hin e1 e2 hx
    go_wp2_with fail
    go_ret2
    exact ⟨by rw [H2.out, H1.out]; rfl, B6⟩
  | false =>
    obtain ⟨e1, e2⟩ := inR_false hin
    have H1 := Lib.hid hin
    have H2 := Lib.hid e1
    clear hin e1 e2 hx
    go_wp2_with fail
    go_ret2
    exact ⟨by rw [H2.out, H1.out]; rfl, B6⟩

set_option maxHeartbeats 4000000 in
theorem quotients_good (a b c mode v k r : Int) (w : World) (ha : -9223372036854775808 ≤ a ∧ a ≤ 9223372036854775807) (hb : -9223372036854775808 ≤ b ∧ b ≤ 9223372036854775807)
    (hc : -9223372036854775808 ≤ c ∧ c ≤ 9223372036854775807) (hc0 : (c == 0) = false) (hm1 : ¬ mode < 1) (hm2 : ¬ 4 < mode) (hv : Hid (ovV r = v)) (hk : Hid (ovE r = k)) (hr : Hid (rnd mode (a * b) c = r))
    (sm : Hid (Small a ∧ Small b ∧ Small r)) (hp : Hid ((a * b).natAbs < 340282366920938463463374607431768211456 ∧ c.natAbs < 340282366920938463463374607431768211456)) :
    Calls Try.prog 5 #[.int .i64 a, .int .i64 b, .int .i64 c, .int .i64 mode] w fun e w' => e = .returned (.bool true) ∧ Below w.heap.size w w' := by
  have hc1 : c ≠ 0 := by simpa using hc0
  have HC1 := Lib.hid hc1
  have HMO : Hid (1 ≤ mode ∧ mode ≤ 4) := Lib.hid (by omega)
  have HMD : Hid (mdV a b c mode = v ∧ mdE a b c mode = k) := Lib.hid (by
    unfold mdV mdE
    rw [if_neg (by omega), if_neg (by omega), hr.out]
    exact ⟨hv.out, hk.out⟩)
  clear hc1
  have r3 := fun w => run_eql_code (w := w) 3 3
  cases hin : inR r with
  | true =>
    obtain ⟨e1, e2⟩ := inR_true hin
    obtain rfl : r = v := by rw [← hv.out, e1]
    obtain rfl : k = 0 := by rw [← hk.out, e2]
    have HIN := Lib.hid hin
    have HE1 := Lib.hid e1
    clear hin e1 e2
    go_enter Try.func5, Try.ntmps5
    go_wp2_with fail
    refine (up_any _).mono ?_
    rintro e w0 ⟨rfl, n, hw0⟩
    have BW : Below w.heap.size w w0 := by rw [hw0]; exact below_drewN (Below.refl _ _) _
    clear hw0
    go_wp2_with fail
    refine (mulDiv_is a b c mode r 0 ha hb hc HMD.out.1 HMD.out.2 _).mono ?_
    rintro e w1 ⟨rfl, n1, hw1⟩
    have BX : Below w.heap.size w w1 := by rw [hw1]; exact below_drewN BW _
    clear hw1
    rw [errv_0]
    go_wp2_with fail
    refine (refMulDiv_walk a b c mode r _ ha hb hc HC1.out HMO hr sm hp).mono ?_
    rintro e w2 ⟨rfl, P2⟩
    rw [HIN.out, HE1.out]
    have BZ := BX.trans (P2.mono BX.size)
    go_wp2_with fail
    go_ret
    exact ⟨by simp, BZ⟩
  | false =>
    obtain ⟨e1, e2⟩ := inR_false hin
    obtain rfl : v = 0 := by rw [← hv.out, e1]
    obtain rfl : k = 3 := by rw [← hk.out, e2]
    have HIN := Lib.hid hin
    clear hin e1 e2
    go_enter Try.func5, Try.ntmps5
    go_wp2_with fail
    refine (up_any _).mono ?_
    rintro e w0 ⟨rfl, n, hw0⟩
    have BW : Below w.heap.size w w0 := by rw [hw0]; exact below_drewN (Below.refl _ _) _
    clear hw0
    go_wp2_with fail
    refine (mulDiv_is a b c mode 0 3 ha hb hc HMD.out.1 HMD.out.2 _).mono ?_
    rintro e w1 ⟨rfl, n1, hw1⟩
    have BX : Below w.heap.size w w1 := by rw [hw1]; exact below_drewN BW _
    clear hw1
    rw [errv_3]
    go_wp2_with fail
    refine (refMulDiv_walk a b c mode r _ ha hb hc HC1.out HMO hr sm hp).mono ?_
    rintro e w2 ⟨rfl, P2⟩
    rw [HIN.out]
    have BZ := BX.trans (P2.mono BX.size)
    go_wp2_with fail
    go_ret
    exact ⟨by simp, BZ⟩

set_option maxHeartbeats 2000000 in
theorem quotients_bad (a b c mode : Int) (w : World) (ha : -9223372036854775808 ≤ a ∧ a ≤ 9223372036854775807) (hb : -9223372036854775808 ≤ b ∧ b ≤ 9223372036854775807)
    (hc : -9223372036854775808 ≤ c ∧ c ≤ 9223372036854775807) (hbad : c = 0 ∨ mode < 1 ∨ 4 < mode) :
    Calls Try.prog 5 #[.int .i64 a, .int .i64 b, .int .i64 c, .int .i64 mode] w fun e w' => e = .returned (.bool true) ∧ Below w.heap.size w w' := by
  have HMD : Hid (mdV a b c mode = 0 ∧ mdE a b c mode = 1) := Lib.hid (by
    unfold mdV mdE
    rw [if_pos hbad, if_pos hbad]
    exact ⟨rfl, rfl⟩)
  have r1 := fun w => run_eql_code (w := w) 1 1
  have hb3 : c = 0 ∨ ((c == 0) = false ∧ mode < 1) ∨ ((c == 0) = false ∧ ¬ mode < 1 ∧ 4 < mode) := by
    by_cases h : c = 0
    · exact Or.inl h
    · have h' : (c == 0) = false := by simpa using h
      by_cases h2 : mode < 1
      · exact Or.inr (Or.inl ⟨h', h2⟩)
      · exact Or.inr (Or.inr ⟨h', h2, by omega⟩)
  clear hbad
  rcases hb3 with rfl | ⟨h1, h2⟩ | ⟨h1, h2, h3⟩
  all_goals
    go_enter Try.func5, Try.ntmps5
    go_wp2_with fail
    refine (up_any _).mono ?_
    rintro e w0 ⟨rfl, n, hw0⟩
    have BW : Below w.heap.size w w0 := by rw [hw0]; exact below_drewN (Below.refl _ _) _
    clear hw0
    go_wp2_with fail
    refine (mulDiv_is a b _ mode 0 1 ha hb hc HMD.out.1 HMD.out.2 _).mono ?_
    rintro e w1 ⟨rfl, n1, hw1⟩
    have BX : Below w.heap.size w w1 := by rw [hw1]; exact below_drewN BW _
    clear hw1
    rw [errv_1]
    go_wp2_with fail
    go_ret
    exact ⟨by simp, BX⟩

theorem centsQuotients_walk (a b c mode : Int) (ha : -9223372036854775808 ≤ a ∧ a ≤ 9223372036854775807) (hb : -9223372036854775808 ≤ b ∧ b ≤ 9223372036854775807)
    (hc : -9223372036854775808 ≤ c ∧ c ≤ 9223372036854775807) (w : World) :
    Calls Try.prog 5 #[.int .i64 a, .int .i64 b, .int .i64 c, .int .i64 mode] w fun e w' => e = .returned (.bool true) ∧ Below w.heap.size w w' := by
  by_cases hbad : c = 0 ∨ mode < 1 ∨ 4 < mode
  · exact quotients_bad a b c mode w ha hb hc hbad
  · have hp : (a * b).natAbs ≤ 85070591730234615865843651857942052864 := by
      rw [Int.natAbs_mul]
      have := Nat.mul_le_mul (show a.natAbs ≤ 9223372036854775808 by omega) (show b.natAbs ≤ 9223372036854775808 by omega)
      omega
    have hs := rnd_size (m := mode) (n := a * b) (c := c) (by omega)
    exact quotients_good a b c mode _ _ (rnd mode (a * b) c) w ha hb hc (by simp; omega) (by omega) (by omega) (Lib.hid rfl) (Lib.hid rfl) (Lib.hid rfl) ⟨small_64 (by omega), small_64 (by omega), small_64 (by omega)⟩ ⟨by omega, by omega⟩
end Go.Proofs.Ytheplpfhgifkcaa
