/- The contract of cents.MulDiv. -/
import Derived.Test.YtpddnmkoiplmkaaDoorCents
namespace Go.Proofs.YtpddnmkoiplmkaaDoor
open Go Go.RowKit
set_option linter.unusedVariables false

theorem mag_at (a : Int) (A : Nat) (h : mag a = (A : Int)) (ha : -9223372036854775808 ≤ a ∧ a ≤ 9223372036854775807) (w : World) :
    Calls Tryd.prog 33 #[.int .i64 a] w fun e w' => e = .returned (.int .u64 (A : Int)) ∧ w' = w := by
  rw [← h]; exact mag_any a ha w

theorem mul64_at (A B H L : Nat) (hA : A < 18446744073709551616) (hB : B < 18446744073709551616) (hH : A * B / 18446744073709551616 = H) (hL : A * B % 18446744073709551616 = L) (w : World) :
    Calls Tryd.prog 34 #[.int .u64 A, .int .u64 B] w fun e w' => e = .returned (.tuple #[.int .u64 (H : Int), .int .u64 (L : Int)]) ∧ w' = w := by
  rw [← hH, ← hL]; exact Tryd.bits_Mul64 A B hA hB w

theorem div64_at (H L C : Nat) (Q R : Int) (hL : L < 18446744073709551616) (hC : C < 18446744073709551616) (h : H < C) (hQ : (((H * 18446744073709551616 + L) / C : Nat) : Int) = Q)
    (hR : (((H * 18446744073709551616 + L) % C : Nat) : Int) = R) (w : World) :
    Calls Tryd.prog 35 #[.int .u64 H, .int .u64 L, .int .u64 C] w fun e w' => e = .returned (.tuple #[.int .u64 Q, .int .u64 R]) ∧ ∃ n, w' = World.drewN w n := by
  rw [← hQ, ← hR]; exact Div.div64 H L C hL hC h w

set_option maxHeartbeats 400000 in
theorem mulDiv_bad (a b c m : Int) (h : c = 0 ∨ m < 1 ∨ 4 < m) (w : World) :
    Calls Tryd.prog 22 #[.int .i64 a, .int .i64 b, .int .i64 c, .int .i64 m] w fun e w' => e = .returned (.tuple #[.int .i64 0, .iface 30 (.int .i64 1)]) ∧ w' = w := by
  by_cases c0 : c = 0
  · have c0' : (c == 0) = true := by simpa using c0
    clear c0 h
    go_enter Tryd.func22, Tryd.ntmps22
    go_wp2
    go_ret2
    exact ⟨rfl, rfl⟩
  · have c0' : (c == 0) = false := by simpa using c0
    by_cases c1 : m < 1
    · clear c0 h
      go_enter Tryd.func22, Tryd.ntmps22
      go_wp2
      go_ret2
      exact ⟨rfl, rfl⟩
    · have c2 : 4 < m := by omega
      clear c0 h
      go_enter Tryd.func22, Tryd.ntmps22
      go_wp2
      go_ret2
      exact ⟨rfl, rfl⟩

set_option maxHeartbeats 1000000 in
theorem mulDiv_over (a b c m : Int) (A B C H L : Nat) (ha : -9223372036854775808 ≤ a ∧ a ≤ 9223372036854775807) (hb : -9223372036854775808 ≤ b ∧ b ≤ 9223372036854775807)
    (hc : -9223372036854775808 ≤ c ∧ c ≤ 9223372036854775807) (c0 : (c == 0) = false) (hm : 1 ≤ m ∧ m ≤ 4)
    (hA : Hid (mag a = (A : Int))) (hB : Hid (mag b = (B : Int))) (hC : Hid (mag c = (C : Int)))
    (bA : A ≤ 9223372036854775808) (bB : B ≤ 9223372036854775808) (bC : C ≤ 9223372036854775808) (pC : 1 ≤ C)
    (hH : Hid (A * B / 18446744073709551616 = H)) (hL : Hid (A * B % 18446744073709551616 = L)) (bL : L < 18446744073709551616) (h1 : C ≤ H) (w : World) :
    Calls Tryd.prog 22 #[.int .i64 a, .int .i64 b, .int .i64 c, .int .i64 m] w fun e w' =>
      e = .returned (.tuple #[.int .i64 0, .iface 30 (.int .i64 3)]) ∧ w' = w := by
  have k1 : ¬ m < 1 := by omega
  have k2 : ¬ 4 < m := by omega
  go_enter Tryd.func22, Tryd.ntmps22
  go_wp2_with fail
  refine (mag_at c C hC.out hc _).mono ?_
  rintro e w' ⟨rfl, rfl⟩
  go_wp2_with fail
  refine (mag_at a A hA.out ha _).mono ?_
  rintro e w' ⟨rfl, rfl⟩
  go_wp2_with fail
  refine (mag_at b B hB.out hb _).mono ?_
  rintro e w' ⟨rfl, rfl⟩
  go_wp2_with fail
  refine (mul64_at A B H L (by omega) (by omega) hH.out hL.out _).mono ?_
  rintro e w' ⟨rfl, rfl⟩
  go_wp2_with fail
  go_ret2
  exact ⟨rfl, rfl⟩

set_option maxHeartbeats 1000000 in
theorem mulDiv_walk (a b c m : Int) (A B C H L : Nat) (Q R : Int) (ha : -9223372036854775808 ≤ a ∧ a ≤ 9223372036854775807) (hb : -9223372036854775808 ≤ b ∧ b ≤ 9223372036854775807)
    (hc : -9223372036854775808 ≤ c ∧ c ≤ 9223372036854775807) (c0 : (c == 0) = false) (hm : 1 ≤ m ∧ m ≤ 4)
    (hA : Hid (mag a = (A : Int))) (hB : Hid (mag b = (B : Int))) (hC : Hid (mag c = (C : Int)))
    (bA : A ≤ 9223372036854775808) (bB : B ≤ 9223372036854775808) (bC : C ≤ 9223372036854775808) (pC : 1 ≤ C)
    (hH : Hid (A * B / 18446744073709551616 = H)) (hL : Hid (A * B % 18446744073709551616 = L)) (bL : L < 18446744073709551616)
    (hQ : Hid ((((H * 18446744073709551616 + L) / C : Nat) : Int) = Q)) (hR : Hid ((((H * 18446744073709551616 + L) % C : Nat) : Int) = R))
    (pQ : 0 ≤ Q) (bQ : Q ≤ 18446744073709551615) (pR : 0 ≤ R) (bR : R < (C : Int)) (h1' : H < C) (w : World) :
    Calls Tryd.prog 22 #[.int .i64 a, .int .i64 b, .int .i64 c, .int .i64 m] w fun e w' =>
      e = (if 9223372036854775808 < Q then .returned (.tuple #[.int .i64 0, .iface 30 (.int .i64 3)]) else
        .returned (.tuple #[.int .i64 (ovV (if sgn a b c then -(Q + bump (awayB Q R (C : Int) (sgn a b c) m)) else Q + bump (awayB Q R (C : Int) (sgn a b c) m))),
          errv (ovE (if sgn a b c then -(Q + bump (awayB Q R (C : Int) (sgn a b c) m)) else Q + bump (awayB Q R (C : Int) (sgn a b c) m)))])) ∧ ∃ n, w' = World.drewN w n := by
  have k1 : ¬ m < 1 := by omega
  have k2 : ¬ 4 < m := by omega
  · skip
    by_cases h2 : 9223372036854775808 < Q
    · rw [if_pos h2]
      go_enter Tryd.func22, Tryd.ntmps22
      go_wp2_with fail
      refine (mag_at c C hC.out hc _).mono ?_
      rintro e w' ⟨rfl, rfl⟩
      go_wp2_with fail
      refine (mag_at a A hA.out ha _).mono ?_
      rintro e w' ⟨rfl, rfl⟩
      go_wp2_with fail
      refine (mag_at b B hB.out hb _).mono ?_
      rintro e w' ⟨rfl, rfl⟩
      go_wp2_with fail
      refine (mul64_at A B H L (by omega) (by omega) hH.out hL.out _).mono ?_
      rintro e w' ⟨rfl, rfl⟩
      go_wp2_with fail
      refine (div64_at H L C Q R bL (by omega) h1' hQ.out hR.out _).mono ?_
      rintro e w' ⟨rfl, n, rfl⟩
      go_wp2_with fail
      go_ret2
      exact ⟨rfl, _, rfl⟩
    · rw [if_neg (by omega)]
      obtain ⟨s, hs⟩ : ∃ s, s = sgn a b c := ⟨_, rfl⟩
      obtain ⟨t, ht⟩ : ∃ t, awayB Q R (C : Int) s m = t := ⟨_, rfl⟩
      rw [← hs, ht]
      have HS : (!((!(decide (a < 0) == decide (b < 0))) == decide (c < 0))) = s := hs.symm
      have HT := Lib.hid ht
      clear hs ht
      have bQ1 : Q + bump t ≤ 18446744073709551615 := by cases t <;> simp [bump] <;> omega
      have pQ1 : 0 ≤ Q + bump t := by cases t <;> simp [bump] <;> omega
      cases t <;> cases s
      all_goals
        go_enter Tryd.func22, Tryd.ntmps22
        go_wp2_with fail
        refine (mag_at c C hC.out hc _).mono ?_
        rintro e w' ⟨rfl, rfl⟩
        go_wp2_with fail
        refine (mag_at a A hA.out ha _).mono ?_
        rintro e w' ⟨rfl, rfl⟩
        go_wp2_with fail
        refine (mag_at b B hB.out hb _).mono ?_
        rintro e w' ⟨rfl, rfl⟩
        go_wp2_with fail
        refine (mul64_at A B H L (by omega) (by omega) hH.out hL.out _).mono ?_
        rintro e w' ⟨rfl, rfl⟩
        go_wp2_with fail
        refine (div64_at H L C Q R bL (by omega) h1' hQ.out hR.out _).mono ?_
        rintro e w' ⟨rfl, n, rfl⟩
        go_wp2_with fail
        refine (away_any Q R (C : Int) m _ pQ (by omega) pR bR (by omega) hm _).mono ?_
        rintro e w' ⟨rfl, rfl⟩
        rw [HT.out]
        go_wp2_with fail
        refine (signed_any _ _ (by first | exact pQ | exact pQ1) (by first | exact bQ | exact bQ1) _).mono ?_
        rintro e w' ⟨rfl, rfl⟩
        go_wp2_with fail
        go_ret2
        exact ⟨by simp [bump], _, rfl⟩

theorem mag_nat (a : Int) : mag a = ((a.natAbs : Nat) : Int) := by
  unfold mag; split <;> omega

/-- the contract of MulDiv -/
theorem mulDiv_any (a b c m : Int) (ha : -9223372036854775808 ≤ a ∧ a ≤ 9223372036854775807) (hb : -9223372036854775808 ≤ b ∧ b ≤ 9223372036854775807)
    (hc : -9223372036854775808 ≤ c ∧ c ≤ 9223372036854775807) (w : World) :
    Calls Tryd.prog 22 #[.int .i64 a, .int .i64 b, .int .i64 c, .int .i64 m] w fun e w' =>
      e = .returned (.tuple #[.int .i64 (mdV a b c m), errv (mdE a b c m)]) ∧ ∃ n, w' = World.drewN w n := by
  by_cases hbad : c = 0 ∨ m < 1 ∨ 4 < m
  · have e1 : mdV a b c m = 0 := by unfold mdV; rw [if_pos hbad]
    have e2 : mdE a b c m = 1 := by unfold mdE; rw [if_pos hbad]
    rw [e1, e2, errv_1]
    exact (mulDiv_bad a b c m hbad w).mono fun e w' ⟨he, hw⟩ => ⟨he, 0, hw⟩
  · have e1 : mdV a b c m = ovV (rnd m (a * b) c) := by unfold mdV; rw [if_neg hbad]
    have e2 : mdE a b c m = ovE (rnd m (a * b) c) := by unfold mdE; rw [if_neg hbad]
    rw [e1, e2]
    have hm : 1 ≤ m ∧ m ≤ 4 := by omega
    have hC : mag c = ((c.natAbs : Nat) : Int) := mag_nat c
    have pC : 1 ≤ c.natAbs := by omega
    generalize hA' : a.natAbs = A
    generalize hB' : b.natAbs = B
    generalize hC' : c.natAbs = C at *
    have bA : A ≤ 9223372036854775808 := by omega
    have bB : B ≤ 9223372036854775808 := by omega
    have bC : C ≤ 9223372036854775808 := by omega
    have hA : mag a = (A : Int) := by rw [mag_nat, hA']
    have hB : mag b = (B : Int) := by rw [mag_nat, hB']
    have hdm := Nat.div_add_mod (A * B) 18446744073709551616
    have hl := Nat.mod_lt (A * B) (show 0 < 18446744073709551616 by omega)
    generalize hH : A * B / 18446744073709551616 = H at *
    generalize hL : A * B % 18446744073709551616 = L at *
    have hAB : H * 18446744073709551616 + L = A * B := by rw [Nat.mul_comm]; exact hdm
    have hqr := Nat.div_add_mod (H * 18446744073709551616 + L) C
    have hr := Nat.mod_lt (H * 18446744073709551616 + L) (show 0 < C by omega)
    generalize hQ : (H * 18446744073709551616 + L) / C = Q at *
    generalize hR : (H * 18446744073709551616 + L) % C = R at *
    have key := rnd_mag (a := a) (b := b) (c := c) (m := m) (q := (Q : Int)) (r := (R : Int)) (by omega)
      (by rw [hA, hB, hC, ← Int.natCast_mul, ← Int.natCast_mul, ← Int.natCast_add, ← hAB, ← hqr, Nat.mul_comm]) (by omega) (by rw [hC]; omega) (by omega) hm
    rw [hC] at key
    have hkey : rnd m (a * b) c = if sgn a b c then -((Q : Int) + bump (awayB Q R (C : Int) (sgn a b c) m)) else (Q : Int) + bump (awayB Q R (C : Int) (sgn a b c) m) := by
      rw [key]; cases sgn a b c <;> simp
    by_cases hbig : C ≤ H ∨ 9223372036854775808 < (Q : Int)
    · have hQbig : 9223372036854775808 < (Q : Int) := by
        rcases hbig with h | h
        · have h1 : C * 18446744073709551616 ≤ H * 18446744073709551616 + L :=
            Nat.le_trans (Nat.mul_le_mul_right 18446744073709551616 h) (Nat.le_add_right _ _)
          have h2 : 18446744073709551616 ≤ Q := by
            rw [← hQ, Nat.le_div_iff_mul_le (by omega), Nat.mul_comm]; exact h1
          omega
        · exact h
      have hbump : 0 ≤ bump (awayB Q R (C : Int) (sgn a b c) m) := by unfold bump; split <;> omega
      have hout : ¬ (-9223372036854775808 ≤ rnd m (a * b) c ∧ rnd m (a * b) c ≤ 9223372036854775807) := by
        rw [hkey]; split <;> omega
      rw [(ov_out hout).1, (ov_out hout).2, errv_3]
      by_cases hCH : C ≤ H
      · refine (mulDiv_over a b c m A B C H L ha hb hc (by simpa using (show c ≠ 0 by omega)) hm (Lib.hid hA) (Lib.hid hB) (Lib.hid hC) bA bB bC pC (Lib.hid hH) (Lib.hid hL) hl hCH w).mono fun e w' ⟨he, hw⟩ => ⟨he, 0, hw⟩
      · have hQ2 : Q < 18446744073709551616 := by
          rw [← hQ, Nat.div_lt_iff_lt_mul (by omega)]
          have : (H + 1) * 18446744073709551616 ≤ C * 18446744073709551616 := Nat.mul_le_mul_right _ (by omega)
          rw [Nat.mul_comm 18446744073709551616 C]
          omega
        refine (mulDiv_walk a b c m A B C H L (Q : Int) (R : Int) ha hb hc (by simpa using (show c ≠ 0 by omega)) hm (Lib.hid hA) (Lib.hid hB) (Lib.hid hC) bA bB bC pC (Lib.hid hH) (Lib.hid hL) hl
          (Lib.hid (by rw [hQ])) (Lib.hid (by rw [hR])) (by omega) (by omega) (by omega) (by omega) (by omega) w).mono fun e w' ⟨he, hw⟩ => ⟨?_, hw⟩
        rw [he, if_pos hQbig]
    · have hCH : H < C := by omega
      refine (mulDiv_walk a b c m A B C H L (Q : Int) (R : Int) ha hb hc (by simpa using (show c ≠ 0 by omega)) hm (Lib.hid hA) (Lib.hid hB) (Lib.hid hC) bA bB bC pC (Lib.hid hH) (Lib.hid hL) hl
          (Lib.hid (by rw [hQ])) (Lib.hid (by rw [hR])) (by omega) (by omega) (by omega) (by omega) hCH w).mono fun e w' ⟨he, hw⟩ => ⟨?_, hw⟩
      rw [he, if_neg (by omega), hkey]

theorem mulDiv_is (a b c m v k : Int) (ha : -9223372036854775808 ≤ a ∧ a ≤ 9223372036854775807) (hb : -9223372036854775808 ≤ b ∧ b ≤ 9223372036854775807)
    (hc : -9223372036854775808 ≤ c ∧ c ≤ 9223372036854775807) (hv : mdV a b c m = v) (hk : mdE a b c m = k) (w : World) :
    Calls Tryd.prog 22 #[.int .i64 a, .int .i64 b, .int .i64 c, .int .i64 m] w fun e w' =>
      e = .returned (.tuple #[.int .i64 v, errv k]) ∧ ∃ n, w' = World.drewN w n := by
  rw [← hv, ← hk]; exact mulDiv_any a b c m ha hb hc w

end Go.Proofs.YtpddnmkoiplmkaaDoor
