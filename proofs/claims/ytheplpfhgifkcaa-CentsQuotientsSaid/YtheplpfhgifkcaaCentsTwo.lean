/- The walk of CentsTwo: sum, difference and product of any two numbers, or that they have no room. -/
import Derived.Test.YtheplpfhgifkcaaRef4
import Derived.Test.YtheplpfhgifkcaaCentsNear
namespace Go.Proofs.Ytheplpfhgifkcaa
open Go Go.RowKit
set_option linter.unusedVariables false

theorem inR_true {n : Int} (h : inR n = true) : ovV n = n ∧ ovE n = 0 := by
  simp [inR] at h; exact ov_in (by omega)
theorem inR_false {n : Int} (h : inR n = false) : ovV n = 0 ∧ ovE n = 3 := by
  refine ov_out fun hh => ?_
  simp [inR] at h; omega

def ToldTo (w : World) (e : Ending) (w' : World) : Prop := e = .returned (.bool true) ∧ Below w.heap.size w w'

set_option maxHeartbeats 1000000 in
/-- told: a number is told as the long one is -/
theorem told_any (s k : Int) (v : Value) (n : Int) (w : World) (hs : ovV n = s) (hk : ovE n = k) (hv : NumAt w v n) (hsm : Small n) :
    Calls Try.prog 17 #[.int .i64 s, errv k, v] w (ToldTo w) := by
  obtain ⟨a, len, cap, ds, rfl, hrest⟩ := hv
  obtain ⟨m, hm⟩ : ∃ m, decide (n < 0) = m := ⟨_, rfl⟩
  have NV : Hid (∀ W, Below w.heap.size w W → NumAt W (.agg #[.slice a len cap, .bool m]) n) := fun W hW => by rw [← hm]; exact NumAt.up ⟨a, len, cap, ds, rfl, hrest⟩ hW
  rw [hm]
  have SM := Lib.hid hsm
  clear hrest hm hsm
  have r3 := fun w => run_eql_code (w := w) 3 3
  cases hin : inR n with
  | true =>
    obtain ⟨e1, e2⟩ := inR_true hin
    obtain rfl : n = s := by rw [← hs, e1]
    obtain rfl : k = 0 := by rw [← hk, e2]
    have HIN := Lib.hid hin
    rw [errv_0]
    clear hs hk e1 e2 hin
    go_enter Try.func17, Try.ntmps17
    go_wp2_with fail
    refine (to_any _ n _ (NV.out _ (by go_grown)) SM.out).mono ?_
    rintro e w1 ⟨x, rfl, hx, hb⟩
    rw [hx HIN.out, HIN.out]
    go_wp2_with fail
    go_ret
    exact ⟨by simp, Below.trans (by go_grown) (hb.mono (by simp))⟩
  | false =>
    obtain ⟨e1, e2⟩ := inR_false hin
    obtain rfl : s = 0 := by rw [← hs, e1]
    obtain rfl : k = 3 := by rw [← hk, e2]
    have HIN := Lib.hid hin
    rw [errv_3]
    clear hs hk e1 e2 hin
    go_enter Try.func17, Try.ntmps17
    go_wp2_with fail
    refine (to_any _ n _ (NV.out _ (by go_grown)) SM.out).mono ?_
    rintro e w1 ⟨x, rfl, hx, hb⟩
    rw [HIN.out]
    go_wp2_with fail
    go_ret
    exact ⟨by simp, Below.trans (by go_grown) (hb.mono (by simp))⟩

theorem small_64 {n : Int} (h : n.natAbs ≤ 340282366920938463463374607431768211456) : Small n := by
  have e : (340282366920938463463374607431768211456 : Nat) < 65536 ^ 60 := by decide
  exact Nat.lt_of_le_of_lt h e

set_option maxRecDepth 100000 in
set_option maxHeartbeats 4000000 in
theorem two_walk (a b s kS d kD p kP : Int) (w : World) (ha : -9223372036854775808 ≤ a ∧ a ≤ 9223372036854775807) (hb : -9223372036854775808 ≤ b ∧ b ≤ 9223372036854775807)
    (vS : Hid (ovV (a + b) = s ∧ ovE (a + b) = kS)) (vD : Hid (ovV (a + -b) = d ∧ ovE (a + -b) = kD)) (vP : Hid (ovV (a * b) = p ∧ ovE (a * b) = kP))
    (sm : Hid (Small a ∧ Small b ∧ Small (a + b) ∧ Small (-b) ∧ Small (a + -b) ∧ Small (a * b))) :
    Calls Try.prog 3 #[.int .i64 a, .int .i64 b] w fun e w' => e = .returned (.bool true) ∧ Below w.heap.size w w' := by
  go_enter Try.func3, Try.ntmps3
  go_wp2_with fail
  refine (up_any _).mono ?_
  rintro e w' ⟨rfl, n, rfl⟩
  go_wp2_with fail
  refine (of_any a ha _).mono ?_
  rintro e w1 ⟨v1, rfl, N1, B1⟩
  obtain ⟨a1, l1, c1, d1, rfl, R1⟩ := N1
  go_wp2_with fail
  refine (of_any b hb _).mono ?_
  rintro e w2 ⟨v2, rfl, N2, B2⟩
  obtain ⟨a2, l2, c2, d2, rfl, R2⟩ := N2
  go_wp2_with fail
  refine (add_is a b s kS ha hb vS.out.1 vS.out.2 _).mono ?_
  rintro e w3 ⟨rfl, rfl⟩
  go_wp2_with fail
  refine (sub_is a b d kD ha hb (by rw [Int.sub_eq_add_neg]; exact vD.out.1) (by rw [Int.sub_eq_add_neg]; exact vD.out.2) _).mono ?_
  rintro e w3 ⟨rfl, rfl⟩
  go_wp2_with fail
  refine (mul_is a b p kP ha hb vP.out.1 vP.out.2 _).mono ?_
  rintro e w3 ⟨rfl, n2, rfl⟩
  go_wp2_with fail
  obtain ⟨ma, hma⟩ : ∃ m, decide (a < 0) = m := ⟨_, rfl⟩
  obtain ⟨mb, hmb⟩ : ∃ m, decide (b < 0) = m := ⟨_, rfl⟩
  rw [hma, hmb]
  obtain ⟨W9, hW9⟩ : ∃ W9, W9 = (w2.alloc (Obj.cells #[.slice a2 l2 c2, .bool mb] 25)) := ⟨_, rfl⟩
  have BX : Below (w1.heap.size + 1) (w1.alloc (Obj.cells #[.slice a1 l1 c1, .bool ma] 25)) W9 := by
    rw [hW9]
    refine Below.alloc (by rw [← hma]; exact B2.mono (by simp)) ?_ _
    have := B2.size; simp at this; exact this
  have BY : Below (w2.heap.size + 1) (w2.alloc (Obj.cells #[.slice a2 l2 c2, .bool mb] 25)) W9 := by rw [hW9]; exact Below.refl _ _
  have hlt1 : w1.heap.size < w2.heap.size := by have := B2.size; simp at this; omega
  have hs9 : w2.heap.size + 1 = W9.heap.size := by rw [hW9]; simp
  have KX : Hid (∀ W, Below W9.heap.size W9 W → (W.cell? ⟨w1.heap.size, 0, none⟩ = some (.slice a1 l1 c1) ∧ W.cell? ⟨w1.heap.size, 1, none⟩ = some (.bool ma)) ∧ W.cell? ⟨w2.heap.size, 0, none⟩ = some (.slice a2 l2 c2) ∧ W.cell? ⟨w2.heap.size, 1, none⟩ = some (.bool mb)) := fun W hW => by
    have h1 := num_cell (BX.trans (hW.mono (by omega)))
    have h2 := num_cell (BY.trans (hW.mono (by omega)))
    exact ⟨⟨h1.1, h1.2.1⟩, h2.1, h2.2.1⟩
  have NX : Hid (∀ W, Below W9.heap.size W9 W → NumAt W (.agg #[.slice a1 l1 c1, .bool ma]) a) := fun W hW => by
    rw [← hma]
    exact NumAt.up (w := w1) ⟨a1, l1, c1, d1, rfl, R1⟩ (((Below.refl _ _).alloc (Nat.le_refl _) _).trans ((BX.trans (hW.mono (by omega))).mono (by omega)))
  have NY : Hid (∀ W, Below W9.heap.size W9 W → NumAt W (.agg #[.slice a2 l2 c2, .bool mb]) b) := fun W hW => by
    rw [← hmb]
    exact NumAt.up (w := w2) ⟨a2, l2, c2, d2, rfl, R2⟩ (((Below.refl _ _).alloc (Nat.le_refl _) _).trans ((BY.trans (hW.mono (by omega))).mono (by omega)))
  have hsz1 : w.heap.size ≤ w1.heap.size := B1.size
  have BZ : Hid (∀ W, Below W9.heap.size W9 W → Below w.heap.size w W) := fun W hW =>
    (((below_drewN (Below.refl _ _) n).trans B1).trans ((Below.refl _ _).alloc hsz1 _)).trans ((BX.trans (hW.mono (by omega))).mono (Nat.le_succ_of_le hsz1))
  rw [← hW9]
  clear hW9 BX BY B1 B2 R1 R2 hma hmb
  go_region_held3 (fun w' => (w'.cell? ⟨w1.heap.size, 0, none⟩ = some (.slice a1 l1 c1) ∧ w'.cell? ⟨w1.heap.size, 1, none⟩ = some (.bool ma)) ∧ w'.cell? ⟨w2.heap.size, 0, none⟩ = some (.slice a2 l2 c2) ∧ w'.cell? ⟨w2.heap.size, 1, none⟩ = some (.bool mb))
    (first | exact KX.out _ ((below_drewN (Below.refl _ _) _).drew) | exact KX.out _ Q7 | exact KX.out _ Q6 | exact KX.out _ Q5 | exact KX.out _ Q4 | exact KX.out _ Q3 | exact KX.out _ Q2 | exact KX.out _ Q1 | exact KX.out _ (below_drewN (Below.refl _ _) _))
    (first
      | (go_at_call 18; (with_reducible refine (addN_any (.agg #[.slice a1 l1 c1, .bool ma]) (.agg #[.slice a2 l2 c2, .bool mb]) a b _ (NX.out _ (by first | exact (below_drewN (Below.refl _ _) _).drew | exact below_drewN (Below.refl _ _) _)) (NY.out _ (by first | exact (below_drewN (Below.refl _ _) _).drew | exact below_drewN (Below.refl _ _) _)) sm.out.1 sm.out.2.1).mono ?_); rintro e x1 ⟨u1, rfl, M1, P1⟩
         have Q1 : Below W9.heap.size W9 x1 := Below.trans (by first | exact (below_drewN (Below.refl _ _) _).drew | exact below_drewN (Below.refl _ _) _) P1
         have M1' := Lib.hid M1
         clear M1 P1)
      | (go_at_call 17; (with_reducible refine (told_any s kS u1 (a + b) _ vS.out.1 vS.out.2 M1'.out sm.out.2.2.1).mono ?_); rintro e x2 ⟨rfl, P2⟩
         have Q2 : Below W9.heap.size W9 x2 := Q1.trans (P2.mono Q1.size)
         clear P2)
      | (go_at_call 19; (with_reducible refine (neg_any (.agg #[.slice a2 l2 c2, .bool mb]) b _ (NY.out _ Q2) sm.out.2.1).mono ?_); rintro e x3 ⟨u3, rfl, M3, P3⟩
         have Q3 : Below W9.heap.size W9 x3 := Q2.trans (P3.mono Q2.size)
         have M3' := Lib.hid M3
         clear M3 P3)
      | (go_at_call 18; (with_reducible refine (addN_any (.agg #[.slice a1 l1 c1, .bool ma]) u3 a (-b) _ (NX.out _ Q3) M3'.out sm.out.1 sm.out.2.2.2.1).mono ?_); rintro e x4 ⟨u4, rfl, M4, P4⟩
         have Q4 : Below W9.heap.size W9 x4 := Q3.trans (P4.mono Q3.size)
         have M4' := Lib.hid M4
         clear M4 P4)
      | (go_at_call 17; (with_reducible refine (told_any d kD u4 (a + -b) _ vD.out.1 vD.out.2 M4'.out sm.out.2.2.2.2.1).mono ?_); rintro e x5 ⟨rfl, P5⟩
         have Q5 : Below W9.heap.size W9 x5 := Q4.trans (P5.mono Q4.size)
         clear P5)
      | (go_at_call 20; (with_reducible refine (mulN_any (.agg #[.slice a1 l1 c1, .bool ma]) (.agg #[.slice a2 l2 c2, .bool mb]) a b _ (NX.out _ Q5) (NY.out _ Q5) sm.out.1 sm.out.2.1).mono ?_); rintro e x6 ⟨u6, rfl, M6, P6⟩
         have Q6 : Below W9.heap.size W9 x6 := Q5.trans (P6.mono Q5.size)
         have M6' := Lib.hid M6
         clear M6 P6)
      | (go_at_call 17; (with_reducible refine (told_any p kP u6 (a * b) _ vP.out.1 vP.out.2 M6'.out sm.out.2.2.2.2.2).mono ?_); rintro e x7 ⟨rfl, P7⟩
         have Q7 : Below W9.heap.size W9 x7 := Q6.trans (P7.mono Q6.size)
         clear P7))
  go_wp2_with fail
  go_ret
  exact ⟨by simp, BZ.out _ Q7⟩

theorem centsTwo_walk (a b : Int) (ha : -9223372036854775808 ≤ a ∧ a ≤ 9223372036854775807) (hb : -9223372036854775808 ≤ b ∧ b ≤ 9223372036854775807) (w : World) :
    Calls Try.prog 3 #[.int .i64 a, .int .i64 b] w fun e w' => e = .returned (.bool true) ∧ Below w.heap.size w w' := by
  have hp : (a * b).natAbs ≤ 85070591730234615865843651857942052864 := by
    rw [Int.natAbs_mul]
    have := Nat.mul_le_mul (show a.natAbs ≤ 9223372036854775808 by omega) (show b.natAbs ≤ 9223372036854775808 by omega)
    omega
  exact two_walk a b _ _ _ _ _ _ w ha hb ⟨rfl, rfl⟩ ⟨rfl, rfl⟩ ⟨rfl, rfl⟩
    ⟨small_64 (by omega), small_64 (by omega), small_64 (by omega), small_64 (by omega), small_64 (by omega), small_64 (by omega)⟩
end Go.Proofs.Ytheplpfhgifkcaa
