/- The contracts of package count, over its landed body. -/
import Derived.Test.YtpddnmkoiplmkaaDoorCountC
import Derived.Test.YtpddnmkoiplmkaaDoorDate
import Derived.Test.YtpddnmkoiplmkaaDoorMulDiv
namespace Go.Proofs.YtpddnmkoiplmkaaDoor
open Go Go.RowKit
set_option linter.unusedVariables false

/-- where a day stands among all of its way of counting -/
def plc (mo : Bool) (y m d : Int) : Int := if mo = true then thirtyD y m d else numD y m d

theorem btw_plc (mo : Bool) (ya ma da yb mb db : Int) : btw mo ya ma da yb mb db = plc mo yb mb db - plc mo ya ma da := by
  unfold btw plc
  cases mo <;> simp

theorem plc_bound {mo : Bool} {y m d : Int} (h : mayD y m d) : -100000 ≤ plc mo y m d ∧ plc mo y m d ≤ 1000000 := by
  obtain ⟨y1, y2, m1, m2, d1, d2⟩ := mayD_in h
  obtain ⟨n0, n1⟩ := num_bound h
  unfold plc thirtyD
  cases mo
  · simp only [Bool.false_eq_true, if_false]; omega
  · simp only [if_true]; split <;> omega

set_option maxHeartbeats 1000000 in
theorem place_no (y m d : Int) (mo : Bool) (h : ¬ mayD y m d) (w : World) (T : Mon w) :
    Calls Tryd.prog 19 #[.agg #[.int .i64 y, .int .i64 m, .int .i64 d], .bool mo] w fun e w' => e = .returned (.tuple #[.int .i64 0, errC 2]) ∧ Below w.heap.size w w' := by
  have H := Lib.hid h
  have HT := Lib.hid T
  clear h T
  cases mo
  · go_enter Tryd.func19, Tryd.ntmps19
    go_wp2_with fail
    refine (number_no y m d H.out _ (HT.out.alloc _)).mono ?_
    rintro e w1 ⟨rfl, hb1⟩
    have HB := Lib.hid (box_below hb1)
    clear hb1
    go_wp2_with fail
    go_ret2
    exact ⟨rfl, HB.out⟩
  · have HD := Lib.hid (decide_eq_false H.out)
    go_enter Tryd.func19, Tryd.ntmps19
    go_wp2_with fail
    refine (may_any y m d false HD.out _ (HT.out.alloc _)).mono ?_
    rintro e w1 ⟨rfl, hb1⟩
    have HB := Lib.hid (box_below hb1)
    clear hb1
    go_wp2_with fail
    go_ret2
    exact ⟨rfl, HB.out⟩

set_option maxHeartbeats 2000000 in
theorem place_yes (y m d v : Int) (mo : Bool) (h : mayD y m d) (hv : plc mo y m d = v) (w : World) (T : Mon w) :
    Calls Tryd.prog 19 #[.agg #[.int .i64 y, .int .i64 m, .int .i64 d], .bool mo] w fun e w' => e = .returned (.tuple #[.int .i64 v, .nilIface]) ∧ Below w.heap.size w w' := by
  have H := Lib.hid h
  have HT := Lib.hid T
  cases mo
  · have HV := Lib.hid (show numD y m d = v by rw [← hv]; simp [plc])
    clear h T hv
    go_enter Tryd.func19, Tryd.ntmps19
    go_wp2_with fail
    refine (number_yes y m d v H.out HV.out _ (HT.out.alloc _)).mono ?_
    rintro e w1 ⟨rfl, hb1⟩
    have HB := Lib.hid (box_below hb1)
    clear hb1
    go_wp2_with fail
    go_ret2
    exact ⟨rfl, HB.out⟩
  · obtain ⟨y1, y2, m1, m2, d1, d2⟩ := mayD_in h
    have dv := dm_bound y m
    have HV := Lib.hid (show 360 * y + 30 * m + min d 30 = v by rw [← hv]; simp only [plc, thirtyD, if_true]; have h31 : d ≤ 31 := by omega
                                                                split <;> omega)
    have hd31 : d ≤ 31 := by omega
    have HD := Lib.hid (decide_eq_true h)
    clear h T hv d2 dv
    go_enter Tryd.func19, Tryd.ntmps19
    go_wp2_with fail
    refine (may_any y m d true HD.out _ (HT.out.alloc _)).mono ?_
    rintro e w1 ⟨rfl, hb1⟩
    obtain ⟨c0, c1, c2⟩ := box_cells hb1
    have HB := Lib.hid (box_below hb1)
    clear hb1
    by_cases hm : d ≤ 30
    · go_wp2_with fail
      go_ret2
      exact ⟨ret2I (by have := HV.out; omega), HB.out⟩
    · go_wp2_with fail
      go_ret2
      exact ⟨ret2I (by have := HV.out; omega), HB.out⟩

set_option maxHeartbeats 1000000 in
theorem between_any (ya ma da yb mb db : Int) (mo : Bool) (w : World) (T : Mon w) : Calls Tryd.prog 8 #[.agg #[.int .i64 ya, .int .i64 ma, .int .i64 da], .agg #[.int .i64 yb, .int .i64 mb, .int .i64 db], .bool mo] w
    fun e w' => Below w.heap.size w w' ∧ ∃ k v, BtwIs mo ya ma da yb mb db k v ∧ e = .returned (.tuple #[.int .i64 v, errv k]) := by
  have HT := Lib.hid T
  have rb := build_date
  by_cases ha : mayD ya ma da
  · obtain ⟨p, hp⟩ : ∃ p, plc mo ya ma da = p := ⟨_, rfl⟩
    have pb := plc_bound (mo := mo) ha
    rw [hp] at pb
    obtain ⟨p0, p1⟩ := pb
    have HA := Lib.hid ha
    have HP := Lib.hid hp
    by_cases hb : mayD yb mb db
    · obtain ⟨q, hq⟩ : ∃ q, plc mo yb mb db = q := ⟨_, rfl⟩
      have qb := plc_bound (mo := mo) hb
      rw [hq] at qb
      obtain ⟨q0, q1⟩ := qb
      have HR := Lib.hid (show btw mo ya ma da yb mb db = q - p by rw [btw_plc, hp, hq])
      have HBB := Lib.hid hb
      have HQ := Lib.hid hq
      clear ha hb hp hq T
      go_enter Tryd.func8, Tryd.ntmps8
      go_wp2_with fail
      refine (place_yes ya ma da p mo HA.out HP.out _ ((HT.out.alloc _).alloc _)).mono ?_
      rintro e w1 ⟨rfl, hb1⟩
      have hb2 := box_below2 hb1
      obtain ⟨-, ⟨z0, z1, z2⟩, -⟩ := box_cells2 hb1
      have HB := Lib.hid hb2
      have HT1 := Lib.hid (HT.out.of hb2)
      clear hb1 hb2
      go_wp2_with fail
      refine (place_yes yb mb db q mo HBB.out HQ.out _ HT1.out).mono ?_
      rintro e w2 ⟨rfl, hb3⟩
      have HB2 := Lib.hid (HB.out.trans (hb3.mono HB.out.size))
      clear hb3
      go_wp2_with fail
      refine bodyPost_ret (v := .tuple #[.int .i64 (q - p), .nilIface]) (by simp [results, Tryd.results8, go_sem]; try omega) rfl ⟨HB2.out, 0, _, Or.inl ⟨rfl, HA.out, HBB.out, HR.out.symm⟩, rfl⟩
    · have HBB := Lib.hid hb
      clear ha hb hp T
      go_enter Tryd.func8, Tryd.ntmps8
      go_wp2_with fail
      refine (place_yes ya ma da p mo HA.out HP.out _ ((HT.out.alloc _).alloc _)).mono ?_
      rintro e w1 ⟨rfl, hb1⟩
      have hb2 := box_below2 hb1
      obtain ⟨-, ⟨z0, z1, z2⟩, -⟩ := box_cells2 hb1
      have HB := Lib.hid hb2
      have HT1 := Lib.hid (HT.out.of hb2)
      clear hb1 hb2
      go_wp2_with fail
      refine (place_no yb mb db mo HBB.out _ HT1.out).mono ?_
      rintro e w2 ⟨rfl, hb3⟩
      have HB2 := Lib.hid (HB.out.trans (hb3.mono HB.out.size))
      clear hb3
      go_wp2_with fail
      refine bodyPost_ret (v := .tuple #[.int .i64 0, errC 2]) (by simp [results, Tryd.results8, go_sem]) rfl ⟨HB2.out, 2, _, Or.inr ⟨rfl, fun h => HBB.out h.2, rfl⟩, rfl⟩
  · have HA := Lib.hid ha
    clear ha T
    go_enter Tryd.func8, Tryd.ntmps8
    go_wp2_with fail
    refine (place_no ya ma da mo HA.out _ ((HT.out.alloc _).alloc _)).mono ?_
    rintro e w1 ⟨rfl, hb1⟩
    have HB := Lib.hid (box_below2 hb1)
    clear hb1
    go_wp2_with fail
    refine bodyPost_ret (v := .tuple #[.int .i64 0, errC 2]) (by simp [results, Tryd.results8, go_sem]) rfl ⟨HB.out, 2, _, Or.inr ⟨rfl, fun h => HA.out h.1, rfl⟩, rfl⟩

set_option maxHeartbeats 1000000 in
theorem accrue_no (b r d : Int) (mo : Bool) (h : ¬ mayA b r d) (w : World) : Calls Tryd.prog 12 #[.int .i64 b, .int .i64 r, .int .i64 d, .bool mo] w
    fun e w' => e = .returned (.tuple #[.int .i64 0, errC 1]) ∧ w' = w := by
  have h' : b < 0 ∨ (0 ≤ b ∧ 10000000000000 < b) ∨ (0 ≤ b ∧ b ≤ 10000000000000 ∧ r < 0) ∨ (0 ≤ b ∧ b ≤ 10000000000000 ∧ 0 ≤ r ∧ 300000 < r) ∨ (0 ≤ b ∧ b ≤ 10000000000000 ∧ 0 ≤ r ∧ r ≤ 300000 ∧ d < 0) ∨
      (0 ≤ b ∧ b ≤ 10000000000000 ∧ 0 ≤ r ∧ r ≤ 300000 ∧ 0 ≤ d ∧ 40000 < d) := by
    unfold mayA at h
    omega
  clear h
  rcases h' with h1 | ⟨h1, h2⟩ | ⟨h1, h2, h3⟩ | ⟨h1, h2, h3, h4⟩ | ⟨h1, h2, h3, h4, h5⟩ | ⟨h1, h2, h3, h4, h5, h6⟩
  all_goals
    go_enter Tryd.func12, Tryd.ntmps12
    go_wp2_with fail
    go_ret2
    exact ⟨rfl, rfl⟩

set_option maxHeartbeats 1000000 in
theorem accrue_yes (b r d : Int) (mo : Bool) (h : mayA b r d) (w : World) : Calls Tryd.prog 12 #[.int .i64 b, .int .i64 r, .int .i64 d, .bool mo] w
    fun e w' => e = .returned (.tuple #[.int .i64 (accI b r d mo), .nilIface]) ∧ ∃ n, w' = World.drewN w n := by
  obtain ⟨g1, g2⟩ := acc_md mo h
  obtain ⟨b0, b1, r0, r1, d0, d1⟩ := h
  obtain ⟨k0, k1⟩ := rd_bound r0 r1 d0 d1
  obtain ⟨p, hp⟩ : ∃ p, r * d = p := ⟨_, rfl⟩
  rw [hp] at g1 g2 k0 k1
  have s1 : IntKind.i64.wrap (r * d) = p := by rw [hp]; exact IntWalk.i64_in _ (by omega)
  clear hp
  cases mo
  · have G1 := Lib.hid g1
    have G2 := Lib.hid g2
    clear g1 g2
    go_enter Tryd.func12, Tryd.ntmps12
    go_wp2_with fail
    refine (mulDiv_is b p 365000000 4 _ _ (by omega) (by omega) (by omega) G1.out G2.out _).mono ?_
    rintro e w' ⟨rfl, n, rfl⟩
    rw [errv_0]
    go_wp2_with fail
    go_ret2
    exact ⟨rfl, _, rfl⟩
  · have G1 := Lib.hid g1
    have G2 := Lib.hid g2
    clear g1 g2
    go_enter Tryd.func12, Tryd.ntmps12
    go_wp2_with fail
    refine (mulDiv_is b p 360000000 4 _ _ (by omega) (by omega) (by omega) G1.out G2.out _).mono ?_
    rintro e w' ⟨rfl, n, rfl⟩
    rw [errv_0]
    go_wp2_with fail
    go_ret2
    exact ⟨rfl, _, rfl⟩

/-- the contracts of package count hold -/
theorem count_any : CountC where
  between := fun ya ma da yb mb db mo w T => between_any ya ma da yb mb db mo w T
  accrue := fun b r d mo w => by
    by_cases h : mayA b r d
    · refine (accrue_yes b r d mo h w).mono ?_
      rintro e w' ⟨rfl, hw⟩
      exact ⟨hw, 0, _, Or.inl ⟨rfl, h, rfl⟩, by rw [errv_0]⟩
    · refine (accrue_no b r d mo h w).mono ?_
      rintro e w' ⟨rfl, hw⟩
      exact ⟨⟨0, hw⟩, 1, _, Or.inr ⟨rfl, h, rfl⟩, by rw [errv_1]⟩
#print axioms count_any
end Go.Proofs.YtpddnmkoiplmkaaDoor
