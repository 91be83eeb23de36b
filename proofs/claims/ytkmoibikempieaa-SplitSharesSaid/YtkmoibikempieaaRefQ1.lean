/- The contract of the long numbers' quotient rounded down (trivetref01.Quotient, way 1). -/
import Derived.Test.YtkmoibikempieaaRef8
import Derived.Deep.CutRange
namespace Go.Proofs.Ytkmoibikempieaa
open Go Go.RowKit
set_option linter.unusedVariables false
attribute [local go_sem] build_num run_field_D

set_option maxRecDepth 100000 in
set_option maxHeartbeats 16000000 in
theorem quo_down (u v : Value) (n0 c0 : Int) (P : Nat) (w : World) (hu : NumAt w u n0) (hv : NumAt w v c0) (hc0 : c0 ≠ 0) (hP : ∀ x : Int, x.natAbs ≤ 4 * P → Small x) (hn : n0.natAbs < P) (hcP : c0.natAbs < P) :
    Calls Try.prog 24 #[u, v, .int .i64 1] w (NumTo w (rnd 1 n0 c0)) := by
  obtain ⟨b1, e1, f1, d1, rfl, R1⟩ := hu
  obtain ⟨b2, e2, f2, d2, rfl, R2⟩ := hv
  obtain ⟨m0, hm0⟩ : ∃ m, decide (n0 < 0) = m := ⟨_, rfl⟩
  obtain ⟨m2, hm2⟩ : ∃ m, decide (c0 < 0) = m := ⟨_, rfl⟩
  have U : NumAt w (.agg #[.slice b1 e1 f1, .bool m0]) n0 := by rw [← hm0]; exact ⟨b1, e1, f1, d1, rfl, R1⟩
  have V : NumAt w (.agg #[.slice b2 e2 f2, .bool m2]) c0 := by rw [← hm2]; exact ⟨b2, e2, f2, d2, rfl, R2⟩
  rw [hm0, hm2]
  obtain ⟨n, c, hc, hrnd, hnc⟩ : ∃ n c : Int, 0 < c ∧ rnd 1 n0 c0 = rnd 1 n c ∧ ((m2 = false ∧ n = n0 ∧ c = c0) ∨ (m2 = true ∧ n = -n0 ∧ c = -c0)) := by
    by_cases h : c0 < 0
    · refine ⟨-n0, -c0, by omega, ?_, Or.inr ⟨by rw [← hm2]; simpa using h, rfl, rfl⟩⟩
      unfold rnd
      rw [if_pos h, if_neg (by omega)]
    · exact ⟨n0, c0, by omega, rfl, Or.inl ⟨by rw [← hm2]; simpa using h, rfl, rfl⟩⟩
  rw [hrnd]
  have hn' : n.natAbs < P := by omega
  have hcP' : c.natAbs < P := by omega
  have N1 := (NumVar.new 36 U)
  have V2 : NumAt (w.alloc (Obj.cells #[.slice b1 e1 f1, .bool m0] 36)) (.agg #[.slice b2 e2 f2, .bool m2]) c0 := V.up ((Below.refl _ _).alloc (Nat.le_refl _) _)
  have N2 := (NumVar.new 36 V2)
  have N3 := NumVar.new 36 (zero_num ((w.alloc (Obj.cells #[.slice b1 e1 f1, .bool m0] 36)).alloc (Obj.cells #[.slice b2 e2 f2, .bool m2] 36)))
  have M1 := (N1.al (o := Obj.cells #[.slice b2 e2 f2, .bool m2] 36)).al (o := Obj.cells #[.slice none 0 0, .bool false] 36)
  have M2 := N2.al (o := Obj.cells #[.slice none 0 0, .bool false] 36)
  have M3 := N3
  simp only [World.size_alloc] at M2 M3
  have HC := Lib.hid hc
  have HP := Lib.hid hP
  have HnP := Lib.hid hn'
  have HcP := Lib.hid hcP'
  have H0P := Lib.hid hn
  have H0C := Lib.hid hcP
  have HNC := Lib.hid hnc
  have HM1 := Lib.hid M1
  have HM2 := Lib.hid M2
  have HM3 := Lib.hid M3
  have HM0 := Lib.hid hm0
  clear N1 N2 N3 V2 U V R1 R2 hm0 hm2 hc hP hn hcP hn' hcP' hnc hrnd hc0 M1 M2 M3
  go_enter Try.func24, Try.ntmps24
  change Code.wp _ _ (Held _ _ _) _ _
  go_upto_if 13 with fail
  go_cut [] from 12 to 17 (fun wx => ∃ (a1 : Option Addr) (l1 k1 : Nat) (m1 : Bool) (a2 : Option Addr) (l2 k2 : Nat), NumVar wx w.heap.size n a1 l1 k1 m1 ∧ NumVar wx (w.heap.size + 1) c a2 l2 k2 false ∧ NumVar wx (w.heap.size + 1 + 1) 0 none 0 0 false ∧ decide (n < 0) = m1 ∧ Below w.heap.size w wx)
  case first =>
    rcases HNC.out with ⟨rfl, rfl, rfl⟩ | ⟨rfl, rfl, rfl⟩
    · clear HNC
      go_wp2_with fail
      go_meet
      exact ⟨_, _, _, _, _, _, _, HM1.out, HM2.out, HM3.out, HM0.out, by go_grown⟩
    · clear HNC
      go_wp2_with fail
      refine (neg_any (.agg #[.slice b1 e1 f1, .bool m0]) n0 _ HM1.out.num (HP.out _ (by have := H0P.out; omega))).mono ?_
      rintro e x1 ⟨u1, rfl, T1, P1⟩
      obtain ⟨a1, l1, k1, d1, rfl, R1⟩ := T1
      obtain ⟨m1, hm1⟩ : ∃ m, decide (-n0 < 0) = m := ⟨_, rfl⟩
      have T1 : NumAt x1 (.agg #[.slice a1 l1 k1, .bool m1]) (-n0) := by rw [← hm1]; exact ⟨a1, l1, k1, d1, rfl, R1⟩
      rw [hm1]
      have V1 := HM1.out.up P1
      have V2 := HM2.out.up P1
      have V3 := HM3.out.up P1
      have j0 := V1.c0
      have j1 := V1.c1
      have j2 := V1.f0
      have j3 := V1.f1
      have X1 := V1.put T1
      have X2 := V2.other V1 (by omega) (.slice a1 l1 k1) (.bool m1)
      have X3 := V3.other V1 (by omega) (.slice a1 l1 k1) (.bool m1)
      have j4 := X2.c0
      have j5 := X2.c1
      have j4' := V2.c0
      have j5' := V2.c1
      have B1 : Below w.heap.size w x1 := Below.trans (by go_grown) (P1.mono (by simp; omega))
      have BX : Below w.heap.size w ((x1.setCell ⟨w.heap.size, 0, none⟩ (.slice a1 l1 k1)).setCell ⟨w.heap.size, 1, none⟩ (.bool m1)) := (B1.setCell (by simp) _).setCell (by simp) _
      have HX1 := Lib.hid X1
      have HX2 := Lib.hid X2
      have HX3 := Lib.hid X3
      have HBX := Lib.hid BX
      have HMM := Lib.hid hm1
      clear V1 V2 V3 X1 X2 X3 B1 BX T1 R1 P1 hm1
      go_wp2_with fail
      refine (neg_any (.agg #[.slice b2 e2 f2, .bool true]) c0 _ HX2.out.num (HP.out _ (by have := H0C.out; omega))).mono ?_
      rintro e x2 ⟨u2, rfl, T2, P2⟩
      obtain ⟨a2, l2, k2, d2, rfl, R2⟩ := T2
      have hm2 : decide (-c0 < 0) = false := by have := HC.out; simp; omega
      have T2 : NumAt x2 (.agg #[.slice a2 l2 k2, .bool false]) (-c0) := by rw [← hm2]; exact ⟨a2, l2, k2, d2, rfl, R2⟩
      rw [hm2]
      have Y1 := HX1.out.up P2
      have Y2 := HX2.out.up P2
      have Y3 := HX3.out.up P2
      have j6 := Y2.c0
      have j7 := Y2.c1
      have j8 := Y2.f0
      have j9 := Y2.f1
      have HY1 := Lib.hid (Y1.other Y2 (by omega) (.slice a2 l2 k2) (.bool false))
      have HY2 := Lib.hid (Y2.put T2)
      have HY3 := Lib.hid (Y3.other Y2 (by omega) (.slice a2 l2 k2) (.bool false))
      have HB2 := Lib.hid (HBX.out.trans (P2.mono HBX.out.size))
      clear Y1 Y2 Y3 T2 R2 P2 hm2
      go_wp2_with fail
      go_meet
      exact ⟨_, _, _, _, _, _, _, HY1.out, HY2.out, HY3.out, HMM.out, (HB2.out.setCell (by simp) _).setCell (by simp) _⟩
  case rest =>
  obtain ⟨a1, l1, k1, m1, a2, l2, k2, M1, M2, M3, hm1, BW0⟩ := hcut
  have HM := Lib.hid hm1
  have i1 := M1.c0
  have i1' := M1.c1
  have i2 := M2.c0
  have i2' := M2.c1
  clear hm1 HM1 HM2 HM3 HNC H0P H0C
  go_wp2_with fail
  refine (floor_walk (.agg #[.slice a1 l1 k1, .bool m1]) (.agg #[.slice a2 l2 k2, .bool false]) n c P _ M1.num M2.num HC.out HP.out HnP.out HcP.out).mono ?_
  rintro e x3 ⟨u3, rfl, T3, P3⟩
  obtain ⟨a7, l7, k7, d7, rfl, R7⟩ := T3
  obtain ⟨m7, hm7⟩ : ∃ m, decide (n / c < 0) = m := ⟨_, rfl⟩
  have T7 : NumAt x3 (.agg #[.slice a7 l7 k7, .bool m7]) (n / c) := by rw [← hm7]; exact ⟨a7, l7, k7, d7, rfl, R7⟩
  have hsz := Nat.lt_of_lt_of_le (cell_lt M3.c0) P3.size
  have QW : QV (x3.alloc (Obj.cells #[.slice a7 l7 k7, .bool m7] 36)) w.heap.size x3.heap.size n c (n / c) a1 l1 k1 m1 a2 l2 k2 false a7 l7 k7 m7 := ⟨(M1.up P3).al, (M2.up P3).al, (M3.up P3).al, NumVar.new _ T7, hsz⟩
  have h0 : Below w.heap.size w x3 := BW0.trans (P3.mono BW0.size)
  have BW : Below w.heap.size w (x3.alloc (Obj.cells #[.slice a7 l7 k7, .bool m7] 36)) := h0.alloc h0.size _
  rw [hm7]
  have HR : Hid (n + -(n / c * c) = n % c) := Lib.hid (by have := Int.emod_add_mul_ediv n c; rw [Int.mul_comm] at this; omega)
  clear M1 M2 M3 R7 hm7 T7 i1 i2 i1' i2' h0 BW0
  obtain ⟨W5, hW5⟩ : ∃ W, x3.alloc (Obj.cells #[.slice a7 l7 k7, .bool m7] 36) = W := ⟨_, rfl⟩
  obtain ⟨T7, hT7⟩ : ∃ T, x3.heap.size = T := ⟨_, rfl⟩
  have HLW : Hid (∀ W, Below W5.heap.size W5 W → QV W w.heap.size T7 n c (n / c) a1 l1 k1 m1 a2 l2 k2 false a7 l7 k7 m7) := fun W hW => by rw [← hW5] at hW; rw [← hT7]; exact QW.up hW
  have HBW : Hid (∀ W, Below W5.heap.size W5 W → Below w.heap.size w W) := fun W hW => by rw [← hW5] at hW; exact BW.trans (hW.mono BW.size)
  have hs5 : T7 < W5.heap.size := by rw [← hW5, ← hT7]; simp
  have hrb : 0 ≤ n % c ∧ n % c < c := ⟨Int.emod_nonneg _ (by have := HC.out; omega), Int.emod_lt_of_pos _ HC.out⟩
  have sq : Small (n / c) ∧ Small (n / c * c) ∧ Small (-(n / c * c)) := by
    have h1 := HR.out
    have h2 := HnP.out
    have h3 := HcP.out
    have h4 := HC.out
    have h5 : (n / c).natAbs ≤ (n / c * c).natAbs := by rw [Int.natAbs_mul]; exact Nat.le_mul_of_pos_right _ (by omega)
    generalize n / c * c = y at h1 h5 ⊢
    generalize n / c = q at h5 ⊢
    generalize n % c = r at h1 hrb
    exact ⟨HP.out _ (by omega), HP.out _ (by omega), HP.out _ (by omega)⟩
  have HRB := Lib.hid hrb
  have SQ := Lib.hid sq
  go_upto_region 5 with fail
  clear QW BW P3 hsz sq hrb hW5 hT7
  go_cut [8] from 21 to 26 (fun t8 wx => ∃ (T8 : Nat) (a8 : Option Addr) (l8 k8 : Nat) (m8 : Bool), t8 = .pointer (some ⟨T8, 0, none⟩) ∧ T7 < T8 ∧ QV wx w.heap.size T7 n c (n / c) a1 l1 k1 m1 a2 l2 k2 false a7 l7 k7 m7 ∧ NumVar wx T8 (n % c) a8 l8 k8 m8 ∧ Below w.heap.size w wx)
  case first =>
    have Q0 := HLW.out _ (Below.refl _ _)
    have i0 := Q0.v1.c0
    have i1 := Q0.v1.c1
    have i2 := Q0.v2.c0
    have i3 := Q0.v2.c1
    have i4 := Q0.v7.c0
    have i5 := Q0.v7.c1
    have i6 := fun o1 => hold_alloc o1 i0
    have i7 := fun o1 => hold_alloc o1 i1
    have i8 := fun o1 => hold_alloc o1 i2
    have i9 := fun o1 => hold_alloc o1 i3
    have i10 := fun o1 => hold_alloc o1 i4
    have i11 := fun o1 => hold_alloc o1 i5
    have tB : w.heap.size < T7 := by have := Q0.t; omega
    clear Q0
    go_region_law (first
      | (go_simp; go_at_call 15; refine (mulN_any (.agg #[.slice a7 l7 k7, .bool m7]) (.agg #[.slice a2 l2 k2, .bool false]) (n / c) c _ (HLW.out _ (by go_grown)).v7.num (HLW.out _ (by go_grown)).v2.num SQ.out.1 (HP.out _ (by have := HcP.out; omega))).mono ?_; rintro e x5 ⟨u5, rfl, T5, P5⟩
         have B5 : Below W5.heap.size W5 x5 := Below.trans (by go_grown) (P5.mono (by first | omega | (simp; done) | (simp; omega)))
         have s5 := B5.size
         have z5 := P5.size
         try simp at z5
         have Q5 := HLW.out _ B5
         have p0 := Q5.v1.c0
         have p1 := Q5.v1.c1
         have p2 := fun o1 => hold_alloc o1 p0
         have p3 := fun o1 => hold_alloc o1 p1
         have T5' := Lib.hid T5
         clear T5 Q5)
      | (go_simp; go_at_call 18; refine (neg_any u5 (n / c * c) _ (T5'.out.up (by go_grown)) SQ.out.2.1).mono ?_; rintro e x6 ⟨u6, rfl, T6, P6⟩
         have B6 : Below W5.heap.size W5 x6 := Below.trans (by go_grown) (P6.mono (by first | omega | (simp; done) | (simp; omega)))
         have s6 := B6.size
         have z6 := P6.size
         try simp at z6
         have Q6 := HLW.out _ B6
         have r0 := Q6.v1.c0
         have r1 := Q6.v1.c1
         have r2 := fun o1 => hold_alloc o1 r0
         have r3 := fun o1 => hold_alloc o1 r1
         have T6' := Lib.hid T6
         clear T6 Q6)
      | (go_simp; go_at_call 17; refine (addN_any (.agg #[.slice a1 l1 k1, .bool m1]) u6 n (-(n / c * c)) _ (HLW.out _ (by go_grown)).v1.num (T6'.out.up (by go_grown)) (HP.out _ (by have := HnP.out; omega)) SQ.out.2.2).mono ?_; rintro e x7 ⟨u7, rfl, M7, P7⟩
         obtain ⟨a8, l8, k8, d8, rfl, R8⟩ := M7
         obtain ⟨m8, hm8⟩ : ∃ m, decide (n + -(n / c * c) < 0) = m := ⟨_, rfl⟩
         have B7 : Below W5.heap.size W5 x7 := Below.trans (by go_grown) (P7.mono (by first | omega | (simp; done) | (simp; omega)))
         have T8' : NumAt x7 (.agg #[.slice a8 l8 k8, .bool m8]) (n + -(n / c * c)) := by rw [← hm8]; exact ⟨a8, l8, k8, d8, rfl, R8⟩
         rw [HR.out] at T8'
         have HT8 := Lib.hid T8'
         try (have NZ := (((NumVar.new 36 (zero_num W5)).up ((Below.refl _ _).drew.trans P5)).up P6).up P7
              have TT : T7 < W5.heap.size := hs5
              have q0 := NZ.c0
              have q1 := NZ.c1
              have q2 := NZ.f0
              have q3 := NZ.f1
              have HNZ := Lib.hid NZ
              clear NZ)
         try (have NZ := ((NumVar.new 36 (zero_num x5)).up P6).up P7
              have TT : T7 < x5.heap.size := Nat.lt_of_lt_of_le hs5 s5
              have q0 := NZ.c0
              have q1 := NZ.c1
              have q2 := NZ.f0
              have q3 := NZ.f1
              have HNZ := Lib.hid NZ
              clear NZ)
         try (have NZ := (NumVar.new 36 (zero_num x6)).up P7
              have TT : T7 < x6.heap.size := Nat.lt_of_lt_of_le hs5 s6
              have q0 := NZ.c0
              have q1 := NZ.c1
              have q2 := NZ.f0
              have q3 := NZ.f1
              have HNZ := Lib.hid NZ
              clear NZ)
         rw [hm8]
         clear R8 hm8 T8'))
    all_goals
      go_wp2_with fail
      go_meet
    all_goals first
      | exact ⟨_, _, _, _, _, rfl, TT, (HLW.out _ B7).other HNZ.out TT _ _, HNZ.out.put HT8.out, ((HBW.out _ B7).setCell (Nat.le_of_lt (Nat.lt_trans tB TT)) _).setCell (Nat.le_of_lt (Nat.lt_trans tB TT)) _⟩
      | exact ⟨_, _, _, _, _, rfl, Nat.lt_of_lt_of_le hs5 B7.size, (HLW.out _ B7).al, NumVar.new _ HT8.out, (HBW.out _ B7).alloc (HBW.out _ B7).size _⟩
  case rest =>
    obtain ⟨T8, a8, l8, k8, m8, rfl, hT8, QW, VW, BW⟩ := hcut
    have g0 := VW.c0
    have g1 := QW.v7.c0
    have g2 := QW.v7.c1
    have g3 := QW.vr.c0
    have g4 := QW.vr.c1
    have g5 := QW.vr.f0
    have g6 := QW.vr.f1
    have tB : w.heap.size + 1 + 1 < T7 := QW.t
    have hlow : n % c = 0 ∨ (1 : Int) = 1 := Or.inr rfl
    have hfin : rnd 1 n c = n / c := by
      unfold rnd rndC
      rw [if_neg (by have := HC.out; omega), if_pos hlow]
    have FIN := QW.ret QW.v7.num
    have C0 := FIN.c0
    have C1 := FIN.c1
    have HFIN := Lib.hid FIN
    have HFI := Lib.hid hfin
    have HBX := Lib.hid BW
    have hl : l8 = 0 ∨ (0 < l8 ∧ True) := by
      by_cases h0 : l8 = 0
      · exact Or.inl h0
      · right
        exact ⟨by omega, trivial⟩
    clear FIN hfin hlow BW VW QW
    rcases hl with rfl | ⟨hl, -⟩
    · go_wp2_with fail
      refine held_ret (v := .agg #[.slice a7 l7 k7, .bool m7]) (by simp [Go.results, Try.results24, go_sem, C0, C1]) rfl ?_
      exact ⟨_, rfl, by rw [HFI.out]; exact HFIN.out.num, (HBX.out.setCell (by simp; omega) _).setCell (by simp; omega) _⟩
    · have hl' : ((l8 : Int) == 0) = false := by simp; omega
      go_wp2_with fail
      refine held_ret (v := .agg #[.slice a7 l7 k7, .bool m7]) (by simp [Go.results, Try.results24, go_sem, C0, C1]) rfl ?_
      exact ⟨_, rfl, by rw [HFI.out]; exact HFIN.out.num, (HBX.out.setCell (by simp; omega) _).setCell (by simp; omega) _⟩

end Go.Proofs.Ytkmoibikempieaa
