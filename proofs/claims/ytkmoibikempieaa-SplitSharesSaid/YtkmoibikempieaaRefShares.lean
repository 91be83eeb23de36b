/- The contract of the document's Shares of layer 3. -/
import Derived.Test.YtkmoibikempieaaSplitMay
import Derived.Test.YtkmoibikempieaaSplitSum
import Derived.Test.YtkmoibikempieaaRefQ1
import Derived.Test.YtkmoibikempieaaSplitRows
import Derived.StillTailTactics
namespace Go.Proofs.Ytkmoibikempieaa
open Go Go.RowKit
set_option linter.unusedVariables false
attribute [local go_sem] build_num run_field_D

theorem small_big' {n : Int} (h : -100000000000000000000000000000 ≤ n ∧ n ≤ 100000000000000000000000000000) : Small n := by
  unfold Small
  have : (100000000000000000000000000000 : Nat) < 65536 ^ 60 := by decide +kernel
  omega

theorem small_prod' {x y : Int} (hx : 0 ≤ x) (hx' : x ≤ 10000000000000) (hy : 0 ≤ y) (hy' : y ≤ 4800000000000000) : 0 ≤ x * y ∧ x * y ≤ 48000000000000000000000000000 := by
  refine ⟨Int.mul_nonneg hx hy, ?_⟩
  have h1 : x * y ≤ x * 4800000000000000 := Int.mul_le_mul_of_nonneg_left hy' hx
  omega

theorem i64v_snoc' (l : List Int) (d : Int) : l.map i64v ++ [i64v d] = (l ++ [d]).map i64v := by simp

theorem cmp_gt' {x y : Int} (h : y < x) : 0 < cmpI x y := by
  unfold cmpI; rw [if_neg (by omega), if_neg (by omega)]; omega
theorem cmp_le' {x y : Int} (h : x ≤ y) : cmpI x y ≤ 0 := by
  unfold cmpI; split
  · omega
  · split <;> omega

/-- what the document's Shares tells -/
def RefSharesTo (T : Int) (zs : List Int) (w : World) (e : Ending) (w' : World) : Prop :=
  ∃ g c, e = .returned (.slice (some ⟨g, 0, none⟩) zs.length c) ∧ w'.ownsRow w.heap.size 2 1 (.slice (some ⟨g, 0, none⟩) zs.length c) zs.length ((sharesL T zs).map i64v) ∧ Below w.heap.size w w'

def quoL (T A : Int) (zs : List Int) (k : Nat) : List Int := (List.range k).map (quoS T A (wgt zs))
theorem quoL_succ (T A : Int) (zs : List Int) (k : Nat) : quoL T A zs (k + 1) = quoL T A zs k ++ [quoS T A (wgt zs) k] := by simp [quoL, List.range_succ]

set_option maxRecDepth 100000 in
set_option maxHeartbeats 8000000 in
theorem refShares_walk (T : Int) (x o len cap : Nat) (zs : List Int) (w : World) (hm : mayS T zs) (hz : Hid (zs.length = len)) (hc : Hid (∀ j, j < len → w.cell? ⟨x, o + j, none⟩ = some (.int .i64 (wgt zs j)))) :
    Calls Try.prog 13 #[.int .i64 T, .slice (some ⟨x, o, none⟩) len cap] w (RefSharesTo T zs w) := by
  have hsum := mayS_sum hm
  have hT0 := hm.1
  have hn0 := hm.2.1
  rw [hz.out] at hn0 hsum
  have hx : x < w.heap.size := cell_lt (hc.out 0 (by omega))
  have CZ : Hid (∀ j, j < len → 0 ≤ wgt zs j ∧ wgt zs j ≤ 10000000000000 ∧ ∀ W, Below w.heap.size w W → W.cell? ⟨x, o + j, none⟩ = some (.int .i64 (wgt zs j))) := fun j hj => by
    exact ⟨(mayS_wgt hm j).1, (mayS_wgt hm j).2, fun W hW => old_cell hW (hc.out j hj) hx⟩
  have PZ : Hid (∀ k, k ≤ len → 0 ≤ sumF (wgt zs) k ∧ sumF (wgt zs) k ≤ sumF (wgt zs) len) := fun k hk => sumF_part (fun j hj => (CZ.out j hj).1) hk
  have LB := left_bound (T := T) hsum.1 (show 0 < len by omega)
  obtain ⟨A, hA⟩ : ∃ A, sumF (wgt zs) len = A := ⟨_, rfl⟩
  rw [hA] at PZ hsum LB
  obtain ⟨A0, A1⟩ := hsum
  obtain ⟨T0, T1⟩ := hT0
  obtain ⟨n0, n1⟩ := hn0
  have HA := Lib.hid hA
  have HLB := Lib.hid LB
  have PQ : Hid (∀ k, k ≤ len → 0 ≤ sumF (quoS T A (wgt zs)) k ∧ sumF (quoS T A (wgt zs)) k ≤ T) := fun k hk => by
    have h1 := sumF_part (f := quoS T A (wgt zs)) (n := len) (k := k) (fun j hj => by
      have h2 := sumF_ge (f := wgt zs) (n := len) (k := j) (fun i hi => (CZ.out i hi).1) hj
      rw [hA] at h2
      exact (quo_bound T0 (CZ.out j hj).1 h2 A0).1) hk
    have h3 := LB.1
    unfold leftS at h3
    omega
  have HM := Lib.hid hm
  clear hA LB hm hc
  go_enter Try.func13, Try.ntmps13
  go_wp2_with fail
  go_loopw [6] (fun i wr => ∃ (j : Nat) (a : Option Addr) (l c : Nat) (m : Bool), j ≤ len ∧ i = .int .i64 j ∧ NumVar wr w.heap.size (sumF (wgt zs) j) a l c m ∧ Below w.heap.size w wr) (fun i _ => len - (RowKit.intOf i).toNat)
  case atStart =>
    exact ⟨0, none, 0, 0, false, by omega, rfl, NumVar.new _ (zero_num w), (Below.refl _ _).alloc (Nat.le_refl _) _⟩
  case round =>
    obtain ⟨j, a, l, c', m, hj, rfl, hv, hbel⟩ := hrel
    by_cases hjl : j < len
    · obtain ⟨z0, z1, hcz⟩ := CZ.out j hjl
      have hel := hcz _ hbel
      have i1 : (0 : Int) ≤ (j : Int) := by omega
      have i2 : (j : Int) < (len : Int) := by omega
      obtain ⟨p0, p1⟩ := PZ.out j hj
      have e1 : sumF (wgt zs) (j + 1) = sumF (wgt zs) j + wgt zs j := rfl
      have E1 := Lib.hid e1
      clear e1 hcz
      generalize wgt zs j = z at *
      generalize sumF (wgt zs) j = U at *
      have k0 := hv.c0
      have k1 := hv.c1
      have HV := Lib.hid hv
      clear hv
      have sm1 : Hid (Small U) := small_big' (by omega)
      have sm2 : Hid (Small z) := small_big' (by omega)
      go_wp2_with fail
      go_region_law (first
        | (go_simp; go_at_call 16; refine (of_any z (by omega) _).mono ?_; rintro e x1 ⟨u1, rfl, M1, P1⟩
           have B1 : Below wr.heap.size wr x1 := Below.trans (by first | exact (Below.refl _ _).drew | exact below_drewN (Below.refl _ _) _) P1
           have V1 := HV.out.up B1
           have k0' := V1.c0
           have k1' := V1.c1
           have HV1 := Lib.hid V1
           have M1' := Lib.hid M1
           clear V1 M1 P1)
        | (go_simp; go_at_call 17; refine (addN_any (.agg #[.slice a l c', .bool m]) u1 U z _ HV1.out.num M1'.out sm1.out sm2.out).mono ?_; rintro e x2 ⟨u2, rfl, M2, P2⟩
           obtain ⟨a4, l4, c4, d4, rfl, R4⟩ := M2
           obtain ⟨m4, hm4⟩ : ∃ m4, decide (U + z < 0) = m4 := ⟨_, rfl⟩
           have V2 := (HV1.out.up P2)
           have k0'' := V2.c0
           have k1'' := V2.c1
           have f0'' := V2.f0
           have f1'' := V2.f1
           have HP : Hid (NumVar ((x2.setCell ⟨w.heap.size, 0, none⟩ (.slice a4 l4 c4)).setCell ⟨w.heap.size, 1, none⟩ (.bool m4)) w.heap.size (sumF (wgt zs) (j + 1)) a4 l4 c4 m4) := by
             rw [E1.out, ← hm4]; exact V2.put ⟨a4, l4, c4, d4, rfl, R4⟩
           have HB : Hid (Below w.heap.size w ((x2.setCell ⟨w.heap.size, 0, none⟩ (.slice a4 l4 c4)).setCell ⟨w.heap.size, 1, none⟩ (.bool m4))) :=
             (((hbel.trans (B1.mono hbel.size)).trans (P2.mono (Nat.le_trans hbel.size B1.size))).setCell (Nat.le_refl _) _).setCell (Nat.le_refl _) _
           rw [hm4]
           clear V2 P2 R4 hm4))
      all_goals
        go_wp2_with fail
        go_roundw
        case rel => exact ⟨j + 1, a4, l4, c4, m4, by omega, by go_num, HP.out, HB.out⟩
        case measure => simp [RowKit.intOf]; omega
    · obtain rfl : len = j := by omega
      rw [HA.out] at hv
      have HV := Lib.hid hv
      have HB := Lib.hid hbel
      clear hv hbel
      obtain ⟨wa, rfl⟩ : ∃ wa : World, wa = wr := ⟨_, rfl⟩
      go_wp2_with fail
      go_loopw [7, 8, 9, 10] (fun u v d i wr => ∃ (k : Nat) (c : Nat → Value × Value), k ≤ len ∧ i = .int .i64 k ∧ d = .int .i64 (T - sumF (quoS T A (wgt zs)) k) ∧ wr.ownsRow wa.heap.size 2 1 u k ((quoL T A zs k).map i64v) ∧ CutRow wr v wa.heap.size k (rstS T A (wgt zs)) c ∧
        Below wa.heap.size wa wr ∧ (k = 0 → u = .slice none 0 0 ∧ v = .slice none 0 0)) (fun _ _ _ i _ => len - (RowKit.intOf i).toNat)
      case atStart => exact ⟨0, fun _ => (undef, undef), Nat.zero_le _, rfl, by simp [sumF], World.ownsRow_nil _ _ _ _, ⟨World.ownsRow_nil _ _ _ _, fun j hj => absurd hj (Nat.not_lt_zero _)⟩, Below.refl _ _, fun _ => ⟨rfl, rfl⟩⟩
      case round =>
        obtain ⟨k, cc, hk, rfl, rfl, hout, hcut, hbel, hnl⟩ := hrel
        have HNL := Lib.hid hnl
        have HBL := Lib.hid hbel
        clear hnl
        have HBA := Lib.hid (HB.out.trans (hbel.mono HB.out.size))
        have HVR := Lib.hid (HV.out.up hbel)
        have HOUT := Lib.hid hout
        have HCUT := Lib.hid hcut
        clear hout hcut hbel
        have hpq0 := PQ.out k hk
        by_cases hlt : k < len
        · have k0 : (0 : Int) ≤ (k : Int) := by omega
          have k1 : (k : Int) < (len : Int) := by omega
          have hpq1 := PQ.out (k + 1) hlt
          obtain ⟨z0, z1, hcz⟩ := CZ.out k hlt
          have CC : Hid (∀ W, Below wr.heap.size wr W → W.cell? ⟨x, o + k, none⟩ = some (.int .i64 (wgt zs k))) := fun W hW => hcz _ (HBA.out.trans (hW.mono HBA.out.size))
          have hzA := sumF_ge (f := wgt zs) (n := len) (k := k) (fun j hj => (CZ.out j hj).1) hlt
          rw [HA.out] at hzA
          obtain ⟨q0, q1⟩ := quo_bound T0 z0 hzA A0
          have hq : quoS T A (wgt zs) k = T * wgt zs k / A := rfl
          have hr : rstS T A (wgt zs) k = T * wgt zs k % A := rfl
          have e1 : sumF (quoS T A (wgt zs)) (k + 1) = sumF (quoS T A (wgt zs)) k + quoS T A (wgt zs) k := rfl
          have hqe := quoL_succ T A zs k
          rw [hq] at e1 hqe
          have HQE := Lib.hid hqe
          have HRE := Lib.hid hr
          have E1 := Lib.hid e1
          clear hcz hq hr e1 hqe
          generalize wgt zs k = z at *
          obtain ⟨m0, m1⟩ := small_prod' T0 T1 z0 (by omega)
          have hdm := Int.mul_ediv_add_emod (T * z) A
          have hr0 := Int.emod_nonneg (T * z) (show A ≠ 0 by omega)
          have hr1 := Int.emod_lt_of_pos (T * z) A0
          obtain ⟨q, hq⟩ : ∃ q, T * z / A = q := ⟨_, rfl⟩
          obtain ⟨r, hr⟩ : ∃ r, T * z % A = r := ⟨_, rfl⟩
          rw [hq, hr] at hdm
          rw [hr] at hr0 hr1
          rw [hq] at q0 q1 E1 HQE
          rw [E1.out] at hpq1
          rw [hr] at HRE
          obtain ⟨p, hp⟩ : ∃ p, T * z = p := ⟨_, rfl⟩
          rw [hp] at m0 m1 hdm hq hr
          have HDV : Hid (rnd 1 p A = q) := by
            have : rnd 1 p A = p / A := by unfold rnd rndC; rw [if_neg (by omega), if_pos (Or.inr rfl)]
            rw [this]; exact hq
          have HRR : Hid (p + -(q * A) = r) := by rw [Int.mul_comm q A]; exact (show p + -(A * q) = r by omega)
          have hqA : q * A = p - r := by rw [Int.mul_comm]; omega
          have SM : Hid (Small T ∧ Small z ∧ Small p ∧ Small A ∧ Small q ∧ Small (q * A) ∧ Small (-(q * A)) ∧ Small r) :=
            ⟨small_big' (by omega), small_big' (by omega), small_big' (by omega), small_big' (by omega), small_big' (by omega), small_big' (by omega), small_big' (by omega), small_big' (by omega)⟩
          have HPE := Lib.hid hp
          clear hp hq hr hdm hr0 hr1 hqA hzA
          obtain ⟨wo, rfl⟩ : ∃ wo : World, wo = wr := ⟨_, rfl⟩
          go_upto_region 12 with fail
          go_cut [11] from 39 to 46 (fun t11 wx => ∃ (N : Nat) (an : Option Addr) (ln kn : Nat) (mn : Bool), t11 = .pointer (some ⟨N, 0, none⟩) ∧ NumVar wx N p an ln kn mn ∧ Below wo.heap.size wo wx ∧ wo.heap.size ≤ N)
          case first =>
            have i0 := CC.out _ (Below.refl _ _)
            have i1 := fun o1 => hold_alloc o1 i0
            go_region_law (first
              | (go_simp; go_at_call 16; (with_reducible refine (of_any T (by omega) _).mono ?_); rintro e x1 ⟨u1, rfl, M1, P1⟩
                 have B1 : Below wo.heap.size wo x1 := Below.trans (by go_grown) (P1.mono (by first | omega | (simp; done) | (simp; omega)))
                 have s1 := B1.size
                 have g1 := P1.size
                 try simp at g1
                 have c1 := CC.out _ B1
                 have c1' := fun o1 => hold_alloc o1 c1
                 have M1' := Lib.hid M1
                 clear M1)
              | (go_simp; go_at_call 16; (with_reducible refine (of_any z (by omega) _).mono ?_); rintro e x2 ⟨u2, rfl, M2, P2⟩
                 have B2 : Below wo.heap.size wo x2 := Below.trans (by go_grown) (P2.mono (by first | omega | (simp; done) | (simp; omega)))
                 have s2 := B2.size
                 have g2 := P2.size
                 try simp at g2
                 have M12 := Lib.hid (M1'.out.up (Below.trans (by go_grown) (P2.mono (by first | omega | (simp; done) | (simp; omega)))))
                 have M2' := Lib.hid M2
                 clear M2)
              | (go_simp; go_at_call 15; refine (mulN_any u1 u2 T z _ (M12.out.up (by go_grown)) (M2'.out.up (by go_grown)) SM.out.1 SM.out.2.1).mono ?_; rintro e x3 ⟨u3, rfl, M3, P3⟩
                 rw [HPE.out] at M3
                 obtain ⟨a8, l8, k8, d8, rfl, R8⟩ := M3
                 obtain ⟨m8, hm8⟩ : ∃ m, decide (p < 0) = m := ⟨_, rfl⟩
                 have B3 : Below wo.heap.size wo x3 := Below.trans (by go_grown) (P3.mono (by first | omega | (simp; done) | (simp; omega)))
                 have T8' : NumAt x3 (.agg #[.slice a8 l8 k8, .bool m8]) p := by rw [← hm8]; exact ⟨a8, l8, k8, d8, rfl, R8⟩
                 have HT8 := Lib.hid T8'
                 try (have NZ := (((NumVar.new 36 (zero_num wo)).up ((Below.refl _ _).drew.trans P1)).up P2).up P3
                      have NN : wo.heap.size ≤ wo.heap.size := Nat.le_refl _
                      have q0 := NZ.c0
                      have q1 := NZ.c1
                      have q2 := NZ.f0
                      have q3 := NZ.f1
                      have HNZ := Lib.hid NZ
                      clear NZ)
                 try (have NZ := ((NumVar.new 36 (zero_num x1)).up P2).up P3
                      have NN : wo.heap.size ≤ x1.heap.size := s1
                      have q0 := NZ.c0
                      have q1 := NZ.c1
                      have q2 := NZ.f0
                      have q3 := NZ.f1
                      have HNZ := Lib.hid NZ
                      clear NZ)
                 try (have NZ := (NumVar.new 36 (zero_num x2)).up P3
                      have NN : wo.heap.size ≤ x2.heap.size := s2
                      have q0 := NZ.c0
                      have q1 := NZ.c1
                      have q2 := NZ.f0
                      have q3 := NZ.f1
                      have HNZ := Lib.hid NZ
                      clear NZ)
                 rw [hm8]
                 clear R8 hm8 T8'))
            all_goals
              go_wp2_with fail
              go_meet
            all_goals first
              | exact ⟨_, _, _, _, _, rfl, NumVar.new _ HT8.out, B3.alloc B3.size _, B3.size⟩
              | exact ⟨_, _, _, _, _, rfl, HNZ.out.put HT8.out, (B3.setCell NN _).setCell NN _, NN⟩
          case rest =>
            obtain ⟨N1, a1, l1, k1', m1', rfl, V1, BC, n1'⟩ := hcut
            have VA := HVR.out.up BC
            have g0 := V1.c0
            have g1 := V1.c1
            have g2 := VA.c0
            have g3 := VA.c1
            have HV1 := Lib.hid V1
            have HVA := Lib.hid VA
            have HBC := Lib.hid BC
            clear V1 VA BC
            go_wp2_with fail
            refine (quo_down (.agg #[.slice a1 l1 k1', .bool m1']) (.agg #[.slice a l c', .bool m]) p A (10 ^ 30) _ HV1.out.num HVA.out.num (by omega) (fun x hx => by unfold Small; exact Nat.lt_of_le_of_lt hx (by decide +kernel)) (by omega) (by omega)).mono ?_
            rintro e x4 ⟨u4, rfl, T4, P4⟩
            rw [HDV.out] at T4
            obtain ⟨a4, l4, k4, d4, rfl, R4⟩ := T4
            obtain ⟨m4, hm4⟩ : ∃ m, decide (q < 0) = m := ⟨_, rfl⟩
            have T4' : NumAt x4 (.agg #[.slice a4 l4 k4, .bool m4]) q := by rw [← hm4]; exact ⟨a4, l4, k4, d4, rfl, R4⟩
            have V4 := NumVar.new 36 T4'
            have h0 := V4.c0
            have h1 := V4.c1
            have HV4 := Lib.hid V4
            have BD : Below wo.heap.size wo (x4.alloc (Obj.cells #[.slice a4 l4 k4, .bool m4] 36)) := (HBC.out.trans (P4.mono HBC.out.size)).alloc (HBC.out.trans (P4.mono HBC.out.size)).size _
            have HV1' := Lib.hid ((HV1.out.up P4).al (o := Obj.cells #[.slice a4 l4 k4, .bool m4] 36))
            have HVA' := Lib.hid ((HVA.out.up P4).al (o := Obj.cells #[.slice a4 l4 k4, .bool m4] 36))
            have HBD := Lib.hid BD
            have hx4 : wo.heap.size ≤ x4.heap.size := Nat.le_trans HBC.out.size P4.size
            rw [hm4]
            clear V4 T4' R4 hm4 BD g0 g1 g2 g3 P4 HV1 HVA HBC
            go_wp2_with fail
            refine (to_any (.agg #[.slice a4 l4 k4, .bool m4]) q _ HV4.out.num SM.out.2.2.2.2.1).mono ?_
            rintro e x5 ⟨v5, rfl, hv5, P5⟩
            have hin : inR q = true := by simp [inR]; omega
            have hv6 := hv5 hin
            subst v5
            rw [hin]
            have BE := HBD.out.trans (P5.mono HBD.out.size)
            have NQ := HV4.out.up P5
            have NV := HV1'.out.up P5
            have NA := HVR.out.up BE
            have HO5 := Lib.hid (ownsRow_up HOUT.out BE)
            have HC5 := Lib.hid (HCUT.out.up BE)
            have HLT := Lib.hid HOUT.out.lt
            have HQ5 := Lib.hid NQ
            have HN5 := Lib.hid NV
            have HA5 := Lib.hid NA
            have HB5 := Lib.hid BE
            have M3 : Hid (k + 1 ≤ maxLen) := by show k + 1 ≤ maxLen; simp only [maxLen]; omega
            have hsz : wa.heap.size ≤ x5.heap.size := Nat.le_trans HBL.out.size BE.size
            clear NQ NV NA BE HV4 HV1' HVA' HBD P5 hv5 hin h0 h1
            go_wp2_with (at_builtin; refine wpList_append_cells rfl (.tmp 55) (.tmp 57) 22 rfl wa.heap.size Ti64 u7 k ((quoL T A zs k).map i64v) rfl (HO5.out.alloc _) (some ⟨_, 0, none⟩) 1 1 [i64v q] rfl (fun h => by cases h) (ownsRow_cells (World.ownsRow_lit (base := 0) (e := 2) _ #[.int .i64 q] 1 (Nat.zero_le _) (by decide) rfl)) (by simp [i64v, Value.oneCell']) M3.out (by omega) (Nat.le_trans hsz (by simp)) ?_; intro v6 w6 o6 q6 r6 l6)
            rw [i64v_snoc', ← HQE.out] at o6
            have ND : NoDigit (x5.alloc (Obj.cells #[.int .i64 q] 2)) u7.ownBlock := by
              by_cases h0 : k = 0
              · exact own_none (B := 0) (E := 0) (s := 0) (w := x5.alloc (Obj.cells #[.int .i64 q] 2)) (HNL.out h0).1
              · exact noDigit_ints (HO5.out.alloc _) (by omega)
            have hwa : w.heap.size < wa.heap.size := cell_lt HV.out.c0
            have C6 := (HC5.out.up ((Below.refl _ _).alloc (Nat.le_refl _) (Obj.cells #[.int .i64 q] 2))).kept q6 ND (rows_apart HC5.out.1 HO5.out (by decide))
            have N6 := (HN5.out.al (o := Obj.cells #[.int .i64 q] 2)).kept q6 ND (fun e => by have := (HLT.out N1 e.symm).2; omega)
            have Q6 := (HQ5.out.al (o := Obj.cells #[.int .i64 q] 2)).kept q6 ND (fun e => by have := (HLT.out _ e.symm).2; omega)
            have A6 := (HA5.out.al (o := Obj.cells #[.int .i64 q] 2)).kept q6 ND (fun e => by have := (HLT.out _ e.symm).1; omega)
            have B6 : Below wa.heap.size wa w6 := ((HBL.out.trans (HB5.out.mono HBL.out.size)).alloc hsz _).grown q6 (Nat.le_trans hsz (by simp)) (fun z hz => (HLT.out z hz).1)
            have j0 := N6.c0
            have j1 := N6.c1
            have j2 := Q6.c0
            have j3 := Q6.c1
            have j4 := A6.c0
            have j5 := A6.c1
            have HN6 := Lib.hid N6
            have HQ6 := Lib.hid Q6
            have HA6 := Lib.hid A6
            have HC6 := Lib.hid C6
            have HO6 := Lib.hid o6
            have HB6 := Lib.hid B6
            have ND8 : Hid (∀ W, CutRow W u8 wa.heap.size k (rstS T A (wgt zs)) cc → NoDigit W u8.ownBlock) := fun W hW => by
              by_cases h0 : k = 0
              · exact own_none (B := 0) (E := 0) (s := 0) (w := W) (HNL.out h0).2
              · exact noDigit_cut hW (by omega)
            clear ND C6 N6 Q6 A6 B6 o6 q6 r6 l6 HN5 HQ5 HA5 HC5 HO5 HB5 HLT M3 hsz
            go_cut [8] from 59 to 67 (fun v8 wx => ∃ c2, CutRow wx v8 wa.heap.size (k + 1) (rstS T A (wgt zs)) c2 ∧ wx.ownsRow wa.heap.size 2 1 v6 (k + 1) ((quoL T A zs (k + 1)).map i64v) ∧ Below wa.heap.size wa wx)
            case first =>
              go_region_law (first
                | (go_simp; go_at_call 15; refine (mulN_any (.agg #[.slice a4 l4 k4, .bool m4]) (.agg #[.slice a l c', .bool m]) q A _ (HQ6.out.num.up (by go_grown)) (HA6.out.num.up (by go_grown)) SM.out.2.2.2.2.1 SM.out.2.2.2.1).mono ?_; rintro e x7 ⟨b7, rfl, M7, P7⟩
                   have B7 : Below w6.heap.size w6 x7 := Below.trans (by go_grown) (P7.mono (by first | omega | (simp; done) | (simp; omega)))
                   have s7 := B7.size
                   have g7 := P7.size
                   try simp at g7
                   have V7 := HN6.out.up B7
                   have p0 := V7.c0
                   have p1 := V7.c1
                   have M7' := Lib.hid M7
                   clear M7 V7)
                | (go_simp; go_at_call 18; refine (neg_any b7 (q * A) _ (M7'.out.up (by go_grown)) SM.out.2.2.2.2.2.1).mono ?_; rintro e x8 ⟨b8, rfl, M8, P8⟩
                   have B8 : Below w6.heap.size w6 x8 := Below.trans (by go_grown) (P8.mono (by first | omega | (simp; done) | (simp; omega)))
                   have s8 := B8.size
                   have g8 := P8.size
                   try simp at g8
                   have V8 := HN6.out.up B8
                   have r0 := V8.c0
                   have r1 := V8.c1
                   have M8' := Lib.hid M8
                   clear M8 V8)
                | (go_simp; go_at_call 17; refine (addN_any (.agg #[.slice a1 l1 k1', .bool m1']) b8 p (-(q * A)) _ (HN6.out.up (by go_grown)).num (M8'.out.up (by go_grown)) SM.out.2.2.1 SM.out.2.2.2.2.2.2.1).mono ?_; rintro e x9 ⟨b9, rfl, M9, P9⟩
                   rw [HRR.out] at M9
                   obtain ⟨a9, l9, k9, d9, rfl, R9⟩ := M9
                   obtain ⟨m9, hm9⟩ : ∃ m, decide (r < 0) = m := ⟨_, rfl⟩
                   have B9 : Below w6.heap.size w6 x9 := Below.trans (by go_grown) (P9.mono (by first | omega | (simp; done) | (simp; omega)))
                   have T9' : NumAt x9 (.agg #[.slice a9 l9 k9, .bool m9]) r := by rw [← hm9]; exact ⟨a9, l9, k9, d9, rfl, R9⟩
                   have HT9 := Lib.hid T9'
                   have HC9 := Lib.hid (HC6.out.up B9)
                   have HO9 := Lib.hid (ownsRow_up HO6.out B9)
                   have HB9 := Lib.hid (HB6.out.trans (B9.mono HB6.out.size))
                   have s9 : wa.heap.size ≤ x9.heap.size := Nat.le_trans HB6.out.size B9.size
                   rw [hm9]
                   clear R9 hm9 T9')
                | (refine step_append_num rfl (.tmp 59) (.tmp 66) rfl wa.heap.size u8 k (pcells cc k) (by simp [Act.eval]) (HC9.out.1.alloc _) ⟨x9.heap.size, 0, none⟩ 1 (.slice a9 l9 k9) (.bool m9) (by simp [Act.eval]) (NumVar.new _ HT9.out).c0 (NumVar.new _ HT9.out).c1 rfl rfl (by omega) (Nat.le_trans s9 (by simp)) ?_; intro v10 w10 o10 q10 r10 l10
                   have C10 := HC9.out.up ((Below.refl _ _).alloc (Nat.le_refl _) (Obj.cells #[.slice a9 l9 k9, .bool m9] 36))
                   have D10 := ND8.out _ C10
                   have FC : Hid (CutRow w10 v10 wa.heap.size (k + 1) (rstS T A (wgt zs)) (pput cc k (.slice a9 l9 k9, .bool m9))) := by
                     refine ⟨by rw [pput_snoc]; exact o10, fun j hj => ?_⟩
                     by_cases e : j = k
                     · subst e
                       refine ⟨a9, l9, k9, m9, by simp [pput], ?_⟩
                       rw [HRE.out]
                       exact (HT9.out.up ((Below.refl _ _).alloc (Nat.le_refl _) _)).kept q10 D10
                     · obtain ⟨a0, l0, c0, m0, e0, h0⟩ := C10.2 j (by omega)
                       exact ⟨a0, l0, c0, m0, by simp [pput, e, e0], h0.kept q10 D10⟩
                   have FO : Hid (w10.ownsRow wa.heap.size 2 1 v6 (k + 1) ((quoL T A zs (k + 1)).map i64v)) := (HO9.out.alloc _).kept q10 (rows_apart (HO9.out.alloc _) C10.1 (by decide))
                   have FB : Hid (Below wa.heap.size wa w10) := (HB9.out.alloc s9 _).grown q10 (Nat.le_trans s9 (by simp)) (fun z hz => (HC9.out.1.lt z hz).1)
                   clear C10 D10 o10 q10 r10 l10))
              all_goals
                go_wp2_with fail
                go_meet
              all_goals exact ⟨_, FC.out, FO.out, FB.out⟩
            case rest =>
              obtain ⟨c2, C10, O10, B10⟩ := hcut
              go_wp2_with fail
              go_roundw
              case rel => exact ⟨k + 1, c2, by omega, by go_num, by rw [E1.out]; go_num, O10, C10, B10, fun h => by omega⟩
              case measure => simp [RowKit.intOf]; omega
        · obtain rfl : len = k := by omega
          have hu : ∃ g7 c7, u7 = .slice (some ⟨g7, 0, none⟩) len c7 := by
            rcases HOUT.out.2 with ⟨_, h0⟩ | ⟨g7, c7, cur, h0, _⟩
            · omega
            · exact ⟨g7, c7, h0⟩
          have hv : ∃ g8 c8, u8 = .slice (some ⟨g8, 0, none⟩) len c8 := by
            rcases HCUT.out.1.2 with ⟨_, h0⟩ | ⟨g8, c8, cur, h0, _⟩
            · omega
            · exact ⟨g8, c8, h0⟩
          obtain ⟨g7, c7, rfl⟩ := hu
          obtain ⟨g8, c8, rfl⟩ := hv
          obtain ⟨L, hL⟩ : ∃ L : Nat, leftS T A (wgt zs) len = (L : Int) := ⟨(leftS T A (wgt zs) len).toNat, by have := HLB.out.1; omega⟩
          have hLn : L < len := by have := HLB.out.2; omega
          have hTL : T - sumF (quoS T A (wgt zs)) len = (L : Int) := hL
          rw [hTL]
          have HL := Lib.hid hL
          have OL : (quoL T A zs len).map i64v = (ol (quoS T A (wgt zs)) (fun _ => false) len).map i64v := by rw [quoL, ol_none]
          have HO0 := HOUT.out
          rw [OL] at HO0
          have HOL := Lib.hid HO0
          have M5 : Hid (len ≤ maxLen) := by show len ≤ maxLen; simp only [maxLen]; omega
          obtain ⟨i0, hi0, hz0, hz1, hz2⟩ := info_parts info_bool
          have hsz : wa.heap.size ≤ wr.heap.size := HBL.out.size
          clear hL hTL OL HO0 hpq0 HOUT
          go_wp2_with (at_make; refine wpList_make_full _ rfl _ _ 54 rfl wa.heap.size 4 i0 (.bool false) 1 Try.underlying54 hi0 hz0 hz1 .i64 .i64 _ _ len rfl rfl rfl rfl (by rw [hz2]; omega) M5.out hsz ?_; intro w3 o3 q3; rw [made_bools] at o3)
          have HG3 := Lib.hid o3
          have HO3 := Lib.hid (HOL.out.kept q3 (Or.inr (by simp [Value.ownBlock])))
          have HC3 := Lib.hid (HCUT.out.kept q3 (NoDigit.none _) (Or.inr (by simp [Value.ownBlock])))
          have HB3 := Lib.hid (HBL.out.grown q3 hsz (fun z hz => by cases hz))
          obtain ⟨gG, hgG⟩ : ∃ b, wr.heap.size = b := ⟨_, rfl⟩
          rw [hgG] at HG3 ⊢
          clear o3 q3 HOL HCUT HNL HBA HVR
          go_wp2_with fail
          go_loopw [9] (fun d wx => ∃ (k : Nat) (g : Nat → Bool), k ≤ L ∧ d = .int .i64 ((L : Int) - (k : Int)) ∧ Hid (Closed (rstS T A (wgt zs)) len g) ∧ Hid (cnt g len = k) ∧ Hid (wx.ownsRow wa.heap.size 4 1 (.slice (some ⟨gG, 0, none⟩) len len) len (gl g len)) ∧
            Hid (wx.ownsRow wa.heap.size 2 1 (.slice (some ⟨g7, 0, none⟩) len c7) len ((ol (quoS T A (wgt zs)) g len).map i64v)) ∧ Hid (CutRow wx (.slice (some ⟨g8, 0, none⟩) len c8) wa.heap.size len (rstS T A (wgt zs)) cc) ∧ Hid (Below wa.heap.size wa wx)) (fun d _ => (RowKit.intOf d).toNat)
          case atStart => exact ⟨0, fun _ => false, by omega, by go_num, closed_none _ _, cnt_none fun i hi => rfl, HG3, HO3, HC3, HB3⟩
          case round =>
            obtain ⟨k, g, hkL, rfl, hcl, hcn, hG, hO, hC, hB⟩ := hrel
            by_cases hlt2 : k < L
            · have d0 : (0 : Int) < (L : Int) - (k : Int) := by omega
              obtain ⟨wb, rfl⟩ : ∃ wb : World, wb = wr := ⟨_, rfl⟩
              go_wp2_with fail
              go_loopw [16, 17] (fun bst i wx => ∃ m : Nat, m ≤ len ∧ i = .int .i64 m ∧ ((bst = .int .i64 (-1) ∧ Hid (∀ j, j < m → g j = true)) ∨ ∃ b : Nat, bst = .int .i64 b ∧ Hid (Best (rstS T A (wgt zs)) g m b)) ∧ Hid (Below wb.heap.size wb wx)) (fun _ i _ => len - (RowKit.intOf i).toNat)
              case atStart => exact ⟨0, Nat.zero_le _, rfl, Or.inl ⟨rfl, fun j hj => absurd hj (Nat.not_lt_zero _)⟩, Below.refl _ _⟩
              case round =>
                obtain ⟨m, hm, rfl, hbst, hbw⟩ := hrel
                by_cases hlt3 : m < len
                · have m0 : (0 : Int) ≤ (m : Int) := by omega
                  have m1 : (m : Int) < (len : Int) := by omega
                  have cg := gl_cell (ownsRow_up hG.out hbw.out) hlt3
                  cases hgm : g m with
                  | true =>
                    rw [hgm] at cg
                    have HGM := Lib.hid hgm
                    clear hgm
                    rcases hbst with ⟨rfl, hall⟩ | ⟨b, rfl, hbest⟩
                    · have hall' : Hid (∀ j, j < m + 1 → g j = true) := fun j hj => by
                        by_cases e : j = m
                        · subst e; exact HGM.out
                        · exact hall.out j (by omega)
                      go_wp2_with fail
                      go_quiet (fail)
                      go_wp2_with fail
                      go_roundw
                      case rel => exact ⟨m + 1, by omega, by go_num, Or.inl ⟨rfl, hall'⟩, below_drewN hbw.out _⟩
                      case measure => simp [RowKit.intOf]; omega
                    · have hbest' : Hid (Best (rstS T A (wgt zs)) g (m + 1) b) := hbest.out.skip HGM.out
                      go_wp2_with fail
                      go_quiet (fail)
                      go_wp2_with fail
                      go_roundw
                      case rel => exact ⟨m + 1, by omega, by go_num, Or.inr ⟨b, rfl, hbest'⟩, below_drewN hbw.out _⟩
                      case measure => simp [RowKit.intOf]; omega
                  | false =>
                    rw [hgm] at cg
                    have HGM := Lib.hid hgm
                    clear hgm
                    rcases hbst with ⟨rfl, hall⟩ | ⟨b, rfl, hbest⟩
                    · have hbest' : Hid (Best (rstS T A (wgt zs)) g (m + 1) m) := Best.first HGM.out hall.out
                      go_wp2_with fail
                      go_quiet (fail)
                      go_wp2_with fail
                      go_roundw
                      case rel => exact ⟨m + 1, by omega, by go_num, Or.inr ⟨m, rfl, hbest'⟩, below_drewN hbw.out _⟩
                      case measure => simp [RowKit.intOf]; omega
                    · have hbm : b < m := hbest.out.1
                      have b0 : (0 : Int) ≤ (b : Int) := by omega
                      have b1 : (b : Int) < (len : Int) := by omega
                      have b2 : decide ((b : Int) < 0) = false := by simp
                      have HCW := Lib.hid (hC.out.up hbw.out)
                      obtain ⟨am, lm, cm, mm, y0, y1, y2⟩ := cut_cell HCW.out hlt3
                      obtain ⟨ab, lb, cb, mb, y3, y4, y5⟩ := cut_cell HCW.out (show b < len by omega)
                      have HY2 := Lib.hid y2
                      have HY5 := Lib.hid y5
                      obtain ⟨rm, hrm⟩ : ∃ r, rstS T A (wgt zs) m = r := ⟨_, rfl⟩
                      obtain ⟨rb, hrb⟩ : ∃ r, rstS T A (wgt zs) b = r := ⟨_, rfl⟩
                      have e1 := rst_room (T := T) (f := wgt zs) A0 m
                      have e2 := rst_room (T := T) (f := wgt zs) A0 b
                      rw [hrm] at HY2 e1
                      rw [hrb] at HY5 e2
                      have HRM := Lib.hid hrm
                      have HRB := Lib.hid hrb
                      have SMC : Hid (Small rm ∧ Small rb ∧ Small (rm + -rb)) := ⟨small_big' (by omega), small_big' (by omega), small_big' (by omega)⟩
                      clear y2 y5 hrm hrb e1 e2
                      obtain ⟨c, hc⟩ : ∃ c, cmpI rm rb = c := ⟨_, rfl⟩
                      have hcase : (0 < c ∧ Hid (Best (rstS T A (wgt zs)) g (m + 1) m)) ∨ (c ≤ 0 ∧ Hid (Best (rstS T A (wgt zs)) g (m + 1) b)) := by
                        by_cases e : rb < rm
                        · exact Or.inl ⟨by rw [← hc]; exact cmp_gt' e, hbest.out.turn HGM.out (by rw [HRM.out, HRB.out]; exact e)⟩
                        · exact Or.inr ⟨by rw [← hc]; exact cmp_le' (by omega), hbest.out.stay (by rw [HRM.out, HRB.out]; omega)⟩
                      have HCC := Lib.hid hc
                      clear hc
                      go_wp2_with fail
                      rcases hcase with ⟨hcc, hb'⟩ | ⟨hcc, hb'⟩
                      all_goals
                        go_still_tail 17, (by kernel_rfl)
                        go_wp2_with fail
                        refine (cmp_any (.agg #[.slice am lm cm, .bool mm]) (.agg #[.slice ab lb cb, .bool mb]) rm rb _ (HY2.out.up (by first | exact (Below.refl _ _).drew | exact below_drewN (Below.refl _ _) _)) (HY5.out.up (by first | exact (Below.refl _ _).drew | exact below_drewN (Below.refl _ _) _)) SMC.out.1 SMC.out.2.1 SMC.out.2.2).mono ?_
                        rintro e x7 ⟨rfl, P7⟩
                        rw [HCC.out]
                        have B7 := Below.trans (by first | exact (Below.refl _ wr).drew | exact below_drewN (Below.refl _ wr) _) P7
                        go_wp2_with fail
                        go_roundw
                        case rel => exact ⟨m + 1, by omega, by go_num, Or.inr ⟨_, rfl, hb'⟩, hbw.out.trans (B7.mono hbw.out.size)⟩
                        case measure => simp [RowKit.intOf]; omega
                · obtain rfl : len = m := by omega
                  have hbe : ∃ b : Nat, u16 = .int .i64 b ∧ Hid (Best (rstS T A (wgt zs)) g len b) := by
                    rcases hbst with ⟨_, hall⟩ | h
                    · exfalso
                      have h1 : cnt g len = len := by rw [cnt_eq (q := fun i => decide (i < len)) (fun i hi => by rw [hall.out i hi]; simp [hi]), cnt_below len len (Nat.le_refl _)]
                      have h2 := hcn.out
                      omega
                    · exact h
                  obtain ⟨b, rfl, hbest⟩ := hbe
                  have hbl : b < len := hbest.out.1
                  have b0 : (0 : Int) ≤ (b : Int) := by omega
                  have b1 : (b : Int) < (len : Int) := by omega
                  have HGw := Lib.hid (ownsRow_up hG.out hbw.out)
                  have HOw := Lib.hid (ownsRow_up hO.out hbw.out)
                  have HCw := Lib.hid (hC.out.up hbw.out)
                  have HBw := Lib.hid (hB.out.trans (hbw.out.mono hB.out.size))
                  have c1 := gl_cell HGw.out hbl
                  have c2 := HGw.out.frozenAt b
                  have G1 := Lib.hid (HGw.out.stored b (.bool true))
                  have O1 := Lib.hid (HOw.out.kept G1.out.2 (rows_apart HOw.out HGw.out (by decide)))
                  have C1 := Lib.hid (HCw.out.kept G1.out.2 (noDigit_bools HGw.out (by omega)) (rows_apart HCw.out.1 HGw.out (by decide)))
                  have c3 := row_cell O1.out hbl
                  rw [ol_get _ _ hbl hbest.out.2.1] at c3
                  have c4 := O1.out.frozenAt b
                  have q0 : 0 ≤ quoS T A (wgt zs) b ∧ quoS T A (wgt zs) b ≤ T := by
                    have h2 := sumF_ge (f := wgt zs) (n := len) (k := b) (fun i hi => (CZ.out i hi).1) hbl
                    rw [HA.out] at h2
                    exact quo_bound T0 (CZ.out b hbl).1 h2 A0
                  obtain ⟨q0, q1⟩ := q0
                  have O2 := Lib.hid (O1.out.stored b (.int .i64 (quoS T A (wgt zs) b + 1)))
                  have F1 := Lib.hid (G1.out.1.kept O2.out.2 (rows_apart G1.out.1 O1.out (by decide)))
                  have F2 := O2.out.1
                  rw [ol_set _ _ _ _ hbest.out.2.1] at F2
                  have F3 := Lib.hid (C1.out.kept O2.out.2 (noDigit_ints O1.out (by omega)) (rows_apart C1.out.1 O1.out (by decide)))
                  have hg1 := (HGw.out.lt gG rfl).1
                  have hg2 := (HOw.out.lt g7 rfl).1
                  have F4 : Hid (Below wa.heap.size wa ((wr.setCell ⟨gG, b, none⟩ (.bool true)).setCell ⟨g7, b, none⟩ (.int .i64 (quoS T A (wgt zs) b + 1)))) := (HBw.out.setCell hg1 _).setCell hg2 _
                  have F5 : Hid (Closed (rstS T A (wgt zs)) len (fun i => if i = b then true else g i)) := hcl.out.put hbest.out
                  have F6 : Hid (cnt (fun i => if i = b then true else g i) len = k + 1) := by
                    have := cnt_put hbl hbest.out.2.1
                    rw [hcn.out] at this
                    exact this
                  have F1' := F1.out
                  rw [gl_set] at F1'
                  have F7 := Lib.hid F1'
                  have F8 := Lib.hid F2
                  clear F1' F2 F1 hbst
                  go_wp2_with fail
                  go_roundw
                  case rel => exact ⟨k + 1, _, by omega, by go_num, F5, F6, F7, F8, F3, F4⟩
                  case measure => simp [RowKit.intOf]; omega
            · have hkL' : k = L := by omega
              subst hkL'
              have d0 : ¬ (0 : Int) < (k : Int) - (k : Int) := by omega
              have hs := ol_shares (T := T) (zs := zs) (g := g)
              rw [hz.out, HA.out] at hs
              have hs2 := hs hcl.out (by rw [hcn.out, HL.out]; omega)
              have hfin := hO.out
              rw [hs2] at hfin
              have HF := Lib.hid (ownsRow_mono hfin (Nat.le_of_lt (cell_lt HV.out.c0)))
              have HBB := Lib.hid (HB.out.trans (hB.out.mono HB.out.size))
              clear hs hs2 hfin
              go_wp2_with fail
              go_ret
              refine ⟨g7, c7, ?_, ?_, HBB.out⟩
              · rw [hz.out]; rfl
              · rw [hz.out]; exact HF.out
end Go.Proofs.Ytkmoibikempieaa
