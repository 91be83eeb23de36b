/- The walk of CountAccrues: the interest of any days, or what is amiss. -/
import Derived.Test.YtpddnmkoiplmkaaDoorCountC
import Derived.Test.YtpddnmkoiplmkaaDoorRef9
import Derived.Deep.RegionHeld3
namespace Go.Proofs.YtpddnmkoiplmkaaDoor
open Go Go.RowKit
set_option linter.unusedVariables false

theorem rnd_acc {b r d : Int} (mo : Bool) : rnd 4 (b * (r * d)) (yd mo) = accI b r d mo := by
  have hy : 0 < yd mo := by cases mo <;> decide
  unfold rnd accI; rw [if_neg (by omega)]

theorem acc_size {b r d : Int} (h : mayA b r d) : 0 ≤ b * (r * d) ∧ b * (r * d) ≤ 120000000000000000000000 := by
  obtain ⟨b0, b1, r0, r1, d0, d1⟩ := h
  obtain ⟨k0, k1⟩ := rd_bound r0 r1 d0 d1
  refine ⟨Int.mul_nonneg b0 k0, ?_⟩
  have h1 : b * (r * d) ≤ b * 12000000000 := Int.mul_le_mul_of_nonneg_left k1 b0
  have h2 : b * 12000000000 ≤ 10000000000000 * 12000000000 := Int.mul_le_mul_of_nonneg_right b1 (by omega)
  exact Int.le_trans h1 (Int.le_trans h2 (by decide))

theorem small_of {n : Int} (h : n.natAbs ≤ 4 * 340282366920938463463374607431768211456) : Small n := by
  have e : 4 * (340282366920938463463374607431768211456 : Nat) < 65536 ^ 60 := by decide
  exact Nat.lt_of_le_of_lt h e

theorem inR_in {n : Int} (h : -9223372036854775808 ≤ n) (h' : n ≤ 9223372036854775807) : inR n = true := by simp [inR, h, h']

/-- a long number lies at block B, and all that was there -/
structure NumBox (w0 : World) (B : Nat) (a : Option Addr) (l c : Nat) (m : Bool) (n : Int) (w : World) : Prop where
  c0 : w.cell? ⟨B, 0, none⟩ = some (.slice a l c)
  c1 : w.cell? ⟨B, 1, none⟩ = some (.bool m)
  num : NumAt w (.agg #[.slice a l c, .bool m]) n
  below : Below w0.heap.size w0 w
  lt : B < w.heap.size
theorem NumBox.call {w0 w1 w2 : World} {B : Nat} {a : Option Addr} {l c : Nat} {m : Bool} {n : Int} (h : NumBox w0 B a l c m n w1) (hb : Below w1.heap.size w1 w2) : NumBox w0 B a l c m n w2 :=
  ⟨by rw [hb.cell (p := ⟨B, 0, none⟩) h.lt]; exact h.c0, by rw [hb.cell (p := ⟨B, 1, none⟩) h.lt]; exact h.c1, h.num.up hb, h.below.trans (hb.mono h.below.size), Nat.lt_of_lt_of_le h.lt hb.size⟩
theorem NumBox.drewN {w0 w1 : World} {B : Nat} {a : Option Addr} {l c : Nat} {m : Bool} {n : Int} (h : NumBox w0 B a l c m n w1) (k : Nat) : NumBox w0 B a l c m n (w1.drewN k) := h.call (below_drewN (Below.refl _ _) k)
theorem NumBox.s {w0 w1 : World} {B : Nat} {a : Option Addr} {l c : Nat} {m : Bool} {n : Int} (h : NumBox w0 B a l c m n w1) :
    w1.cell? ⟨B, 0, none⟩ = some (.slice a l c) ∧ w1.cell? ⟨B, 1, none⟩ = some (.bool m) := ⟨h.c0, h.c1⟩
theorem NumBox.new {w0 w : World} {a : Option Addr} {l c : Nat} {m : Bool} {n : Int} (hb : Below w0.heap.size w0 w) (h : NumAt w (.agg #[.slice a l c, .bool m]) n) :
    NumBox w0 w.heap.size a l c m n (w.alloc (Obj.cells #[.slice a l c, .bool m] 37)) :=
  ⟨by simp, by simp, h.up ((Below.refl _ _).alloc (Nat.le_refl _) _), hb.alloc hb.size _, by simp⟩

set_option maxHeartbeats 4000000 in
theorem accrues_bad (CC : Hid CountC) (b r d : Int) (mo : Bool) (w : World) (T : Mon w)
    (h : b < 0 ∨ (0 ≤ b ∧ 10000000000000 < b) ∨ (0 ≤ b ∧ b ≤ 10000000000000 ∧ r < 0) ∨ (0 ≤ b ∧ b ≤ 10000000000000 ∧ 0 ≤ r ∧ 300000 < r) ∨ (0 ≤ b ∧ b ≤ 10000000000000 ∧ 0 ≤ r ∧ r ≤ 300000 ∧ d < 0) ∨ (0 ≤ b ∧ b ≤ 10000000000000 ∧ 0 ≤ r ∧ r ≤ 300000 ∧ 0 ≤ d ∧ 40000 < d)) :
    Calls Tryd.prog 4 #[.int .i64 b, .int .i64 r, .int .i64 d, .bool mo] w fun e w' => e = .returned (.bool true) ∧ Below w.heap.size w w' := by
  have HN : Hid (¬ mayA b r d) := fun h' => by unfold mayA at h'; omega
  have rd := fun (w : World) (j k : Int) => run_eql_code w j k
  have HB := Lib.hid (Base.refl T)
  clear T
  rcases h with h | ⟨h, h1⟩ | ⟨h, h1, h2⟩ | ⟨h, h1, h2, h3⟩ | ⟨h, h1, h2, h3, h4⟩ | ⟨h, h1, h2, h3, h4, h5⟩
  all_goals
    go_enter Tryd.func4, Tryd.ntmps4
    go_wp2_with fail
    refine (up05_any CC _ HB.out.mon).mono ?_
    rintro e w1 ⟨rfl, hb1⟩
    have HB1 := Lib.hid (HB.out.call hb1)
    clear hb1 HB
    go_wp2_with fail
    refine (CC.out.accrue b r d mo _).mono ?_
    rintro e w2 ⟨⟨n, hw⟩, k, v, ⟨_, hk, _⟩ | ⟨rfl, _, rfl⟩, rfl⟩
    · exact absurd hk HN.out
    have HB2 := Lib.hid (HB1.out.drewN n)
    rw [← hw] at HB2
    rw [errv_1]
    clear hw HB1
    go_wp2_with fail
    go_ret
    exact ⟨by simp, HB2.out.below⟩

set_option maxHeartbeats 4000000 in
theorem accrues_good (CC : Hid CountC) (b r d : Int) (mo : Bool) (w : World) (T : Mon w) (h : mayA b r d) :
    Calls Tryd.prog 4 #[.int .i64 b, .int .i64 r, .int .i64 d, .bool mo] w fun e w' => e = .returned (.bool true) ∧ Below w.heap.size w w' := by
  obtain ⟨k0, k1⟩ := rd_bound h.2.2.1 h.2.2.2.1 h.2.2.2.2.1 h.2.2.2.2.2
  obtain ⟨q0, q1⟩ := acc_size h
  obtain ⟨v0, v1⟩ := acc_bound mo h
  have hr := rnd_acc (b := b) (r := r) (d := d) mo
  obtain ⟨b0, b1, r0, r1, d0, d1⟩ := id h
  obtain ⟨v, hv⟩ : ∃ v, accI b r d mo = v := ⟨_, rfl⟩
  rw [hv] at v0 v1 hr
  obtain ⟨p, hp⟩ : ∃ p, r * d = p := ⟨_, rfl⟩
  rw [hp] at k0 k1 q0 q1 hr
  have HV := Lib.hid hv
  have HP := Lib.hid hp
  have HR := Lib.hid hr
  have HM := Lib.hid h
  have HS : Hid (Small b ∧ Small p ∧ Small (b * p) ∧ Small v ∧ (b * p).natAbs < 340282366920938463463374607431768211456) := ⟨small_of (by omega), small_of (by omega), small_of (by omega), small_of (by omega), by omega⟩
  have HI := Lib.hid (inR_in (n := v) (by omega) (by omega))
  have tv : (v == v) = true := by simp
  have s1 : IntKind.i64.wrap (r * d) = p := by rw [hp]; exact IntWalk.i64_in _ (by omega)
  have HB := Lib.hid (Base.refl T)
  clear hv hp hr h q0 q1 T
  cases mo
  all_goals
    go_enter Tryd.func4, Tryd.ntmps4
    go_wp2_with fail
    refine (up05_any CC _ HB.out.mon).mono ?_
    rintro e w1 ⟨rfl, hb1⟩
    have HB1 := Lib.hid (HB.out.call hb1)
    clear hb1 HB
    go_wp2_with fail
    refine (CC.out.accrue b r d _ _).mono ?_
    rintro e w2 ⟨⟨n, hw⟩, k, v', ⟨rfl, _, hv'⟩ | ⟨_, hk, _⟩, rfl⟩
    rotate_left
    · exact absurd HM.out hk
    rw [HV.out] at hv'
    subst hv'
    have HB2 := Lib.hid (HB1.out.drewN n).below
    rw [← hw] at HB2
    rw [errv_0]
    clear hw HB1
    go_wp2_with fail
    refine (of_any b (by omega) _).mono ?_
    rintro e w3 ⟨u3, rfl, N3, P3⟩
    have N3 := Lib.hid N3
    have HB3 := Lib.hid (HB2.out.trans (P3.mono HB2.out.size))
    clear P3 HB2
    go_wp2_with fail
    refine (of_any p (by omega) _).mono ?_
    rintro e w4 ⟨u4, rfl, N4, P4⟩
    have N3 := Lib.hid (N3.out.up P4)
    have N4 := Lib.hid N4
    have HB4 := Lib.hid (HB3.out.trans (P4.mono HB3.out.size))
    clear P4 HB3
    go_wp2_with fail
    refine (mulN_any u3 u4 b p _ N3.out N4.out HS.out.1 HS.out.2.1).mono ?_
    rintro e w5 ⟨u5, rfl, N5, P5⟩
    obtain ⟨a, l, c, m, rfl⟩ : ∃ a l c m, u5 = .agg #[.slice a l c, .bool m] := by obtain ⟨a, l, c, ds, h, _⟩ := N5; exact ⟨a, l, c, _, h⟩
    have hX := Lib.hid (NumBox.new (HB4.out.trans (P5.mono HB4.out.size)) N5)
    obtain ⟨c0, c1⟩ := hX.out.s
    clear P5 HB4 N5 N3 N4
    first
      | have HR2 : Hid (rnd 4 (b * p) 365000000 = v') := HR.out
      | have HR2 : Hid (rnd 4 (b * p) 360000000 = v') := HR.out
    go_wp2_with fail
    go_region_held3 (fun w' => w'.cell? ⟨w5.heap.size, 0, none⟩ = some (.slice a l c) ∧ w'.cell? ⟨w5.heap.size, 1, none⟩ = some (.bool m))
      (first | exact hX.out.s | exact (hX.out.drewN 1).s)
      (first
        | (go_at_call 14; refine (of_any _ (by omega) _).mono ?_; rintro e w6 ⟨u6, rfl, N6, P6⟩; have N6 := Lib.hid N6; have hX := Lib.hid (by first | exact hX.out.call P6 | exact (hX.out.drewN 1).call P6); clear P6)
        | (go_at_call 16; refine (quo_walk (.agg #[.slice a l c, .bool m]) u6 (b * p) _ 4 340282366920938463463374607431768211456 _ hX.out.num N6.out (by omega) (fun x h => small_of h) HS.out.2.2.2.2 (by omega) (by omega)).mono ?_; rintro e w7 ⟨u7, rfl, N7, P7⟩; rw [HR2.out] at N7; have N7 := Lib.hid N7; have hX := Lib.hid (hX.out.call P7); clear P7)
        | (go_at_call 15; refine (to_any u7 v' _ N7.out HS.out.2.2.2.1).mono ?_; rintro e w8 ⟨x, rfl, hx, P8⟩; rw [hx HI.out, HI.out]; have hX := Lib.hid (hX.out.call P8); clear P8 hx))
    all_goals
      go_wp2_with fail
      go_ret
      exact ⟨by simp, hX.out.below⟩

theorem countAccrues_walk (CC : Hid CountC) (b r d : Int) (mo : Bool) (w : World) (T : Mon w) :
    Calls Tryd.prog 4 #[.int .i64 b, .int .i64 r, .int .i64 d, .bool mo] w fun e w' => e = .returned (.bool true) ∧ Below w.heap.size w w' := by
  by_cases h : mayA b r d
  · exact accrues_good CC b r d mo w T h
  · exact accrues_bad CC b r d mo w T (by unfold mayA at h; omega)
end Go.Proofs.YtpddnmkoiplmkaaDoor
