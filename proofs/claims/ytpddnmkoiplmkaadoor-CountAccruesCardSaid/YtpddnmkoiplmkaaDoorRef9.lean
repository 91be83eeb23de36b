/- The contract of the long numbers' rounded quotient (trivetref01.Quotient). -/
import Derived.Test.YtpddnmkoiplmkaaDoorRef8
import Derived.Deep.CutRange
namespace Go.Proofs.YtpddnmkoiplmkaaDoor
open Go Go.RowKit
set_option linter.unusedVariables false
attribute [local go_sem] build_num run_field_D

theorem num_zero' {w : World} {a : Option Addr} {l c : Nat} {m : Bool} {n : Int} (h : NumAt w (.agg #[.slice a l c, .bool m]) n) (hn : n = 0) : l = 0 := by
  subst hn
  exact num_zero h

theorem cmp_gt {x y : Int} (h : y < x) : cmpI x y = 1 := by
  unfold cmpI
  rw [if_neg (by omega), if_neg (by omega)]

theorem cmp_eq {x y : Int} (h : x = y) : cmpI x y = 0 := by
  unfold cmpI
  rw [if_pos h]

theorem decide_eq_iff {p : Prop} [Decidable p] {m : Bool} (h : decide p = m) : (m = true → p) ∧ (m = false → ¬ p) := by
  subst h
  exact ⟨of_decide_eq_true, of_decide_eq_false⟩

theorem rnd_lt {m n c : Int} (hc : 0 < c) (h2 : ¬ m = 2) (ht : n % c + n % c < c) : rnd m n c = n / c := by
  unfold rnd rndC
  rw [if_neg (by omega)]
  by_cases h : n % c = 0 ∨ m = 1
  · rw [if_pos h]
  · rw [if_neg h, if_neg h2, if_pos (by omega)]

theorem rnd_gt {m n c : Int} (hc : 0 < c) (h1 : ¬ m = 1) (h2 : ¬ m = 2) (hr : n % c ≠ 0) (ht : c < n % c + n % c) : rnd m n c = n / c + 1 := by
  unfold rnd rndC
  rw [if_neg (by omega), if_neg (by simp [h1, hr]), if_neg h2, if_neg (by omega), if_pos (by omega)]

theorem rnd_two {n c : Int} (hc : 0 < c) (hr : n % c ≠ 0) : rnd 2 n c = n / c + 1 := by
  unfold rnd rndC
  rw [if_neg (by omega), if_neg (by simp [hr]), if_pos rfl]

theorem rnd_3 {n c : Int} (hc : 0 < c) (hr : n % c ≠ 0) (ht : n % c + n % c = c) : rnd 3 n c = if n < 0 then n / c else n / c + 1 := by
  unfold rnd rndC
  rw [if_neg (by omega), if_neg (by simp [hr]), if_neg (by decide), if_neg (by omega), if_neg (by omega)]
  by_cases h : n < 0
  · rw [if_pos (Or.inr ⟨rfl, h⟩), if_pos h]
  · rw [if_neg (by rintro (⟨h1, _⟩ | ⟨_, h2⟩); · cases h1
                   · exact h h2), if_neg h]

theorem rnd_4 {n c : Int} (hc : 0 < c) (hr : n % c ≠ 0) (ht : n % c + n % c = c) : rnd 4 n c = if n / c % 2 = 0 then n / c else n / c + 1 := by
  unfold rnd rndC
  rw [if_neg (by omega), if_neg (by simp [hr]), if_neg (by decide), if_neg (by omega), if_neg (by omega)]
  by_cases h : n / c % 2 = 0
  · rw [if_pos (Or.inl ⟨rfl, h⟩), if_pos h]
  · rw [if_neg (by rintro (⟨_, h2⟩ | ⟨h1, _⟩); · exact h h2
                   · cases h1), if_neg h]

/-- is it even? by its lowest digit -/
theorem num_even {w : World} {a : Option Addr} {l k : Nat} {m : Bool} {n : Int} (h : NumAt w (.agg #[.slice a l k, .bool m]) n) :
    (l = 0 ∧ n % 2 = 0) ∨ ∃ b off x, l ≠ 0 ∧ a = some ⟨b, off, none⟩ ∧ w.cell? ⟨b, off, none⟩ = some (.int .u64 (x : Nat)) ∧ n % 2 = (x : Int) % 2 := by
  obtain ⟨a2, l2, c2, ds, he, hr⟩ := h
  simp only [Value.agg.injEq, Array.mk.injEq, List.cons.injEq, Value.slice.injEq, Value.bool.injEq, and_true] at he
  obtain ⟨⟨rfl, rfl, rfl⟩, rfl⟩ := he
  obtain ⟨hc, _, _, hcan, hv⟩ := hr
  have hl : ds.length = l := by have := hc.1; rwa [List.length_map] at this
  by_cases h0 : l = 0
  · left
    have : ds = [] := List.eq_nil_of_length_eq_zero (by omega)
    subst this
    simp [val] at hv
    exact ⟨h0, by omega⟩
  · right
    obtain ⟨b, off, e1, e2⟩ := hc.digit (i := 0) (by omega)
    refine ⟨b, off, ds.getD 0 0, h0, e1, e2, ?_⟩
    have hb := val_bit ds hcan.1 0
    rw [hv, Nat.pow_zero, Nat.div_one] at hb
    have e3 : ds.getD (0 / 16) 0 / 2 ^ (0 % 16) = ds.getD 0 0 := by simp
    rw [e3] at hb
    generalize ds.getD 0 0 = x at hb ⊢
    omega

set_option maxRecDepth 100000 in
set_option maxHeartbeats 16000000 in
theorem quo_walk (u v : Value) (n0 c0 mode : Int) (P : Nat) (w : World) (hu : NumAt w u n0) (hv : NumAt w v c0) (hc0 : c0 ≠ 0) (hP : ∀ x : Int, x.natAbs ≤ 4 * P → Small x) (hn : n0.natAbs < P) (hcP : c0.natAbs < P) (hmode : 1 ≤ mode ∧ mode ≤ 4) :
    Calls Tryd.prog 16 #[u, v, .int .i64 mode] w (NumTo w (rnd mode n0 c0)) := by
  obtain ⟨b1, e1, f1, d1, rfl, R1⟩ := hu
  obtain ⟨b2, e2, f2, d2, rfl, R2⟩ := hv
  obtain ⟨m0, hm0⟩ : ∃ m, decide (n0 < 0) = m := ⟨_, rfl⟩
  obtain ⟨m2, hm2⟩ : ∃ m, decide (c0 < 0) = m := ⟨_, rfl⟩
  have U : NumAt w (.agg #[.slice b1 e1 f1, .bool m0]) n0 := by rw [← hm0]; exact ⟨b1, e1, f1, d1, rfl, R1⟩
  have V : NumAt w (.agg #[.slice b2 e2 f2, .bool m2]) c0 := by rw [← hm2]; exact ⟨b2, e2, f2, d2, rfl, R2⟩
  rw [hm0, hm2]
  obtain ⟨n, c, hc, hrnd, hnc⟩ : ∃ n c : Int, 0 < c ∧ rnd mode n0 c0 = rnd mode n c ∧ ((m2 = false ∧ n = n0 ∧ c = c0) ∨ (m2 = true ∧ n = -n0 ∧ c = -c0)) := by
    by_cases h : c0 < 0
    · refine ⟨-n0, -c0, by omega, ?_, Or.inr ⟨by rw [← hm2]; simpa using h, rfl, rfl⟩⟩
      unfold rnd
      rw [if_pos h, if_neg (by omega)]
    · exact ⟨n0, c0, by omega, rfl, Or.inl ⟨by rw [← hm2]; simpa using h, rfl, rfl⟩⟩
  rw [hrnd]
  have hn' : n.natAbs < P := by omega
  have hcP' : c.natAbs < P := by omega
  have N1 := (NumVar.new 37 U)
  have V2 : NumAt (w.alloc (Obj.cells #[.slice b1 e1 f1, .bool m0] 37)) (.agg #[.slice b2 e2 f2, .bool m2]) c0 := V.up ((Below.refl _ _).alloc (Nat.le_refl _) _)
  have N2 := (NumVar.new 37 V2)
  have N3 := NumVar.new 37 (zero_num ((w.alloc (Obj.cells #[.slice b1 e1 f1, .bool m0] 37)).alloc (Obj.cells #[.slice b2 e2 f2, .bool m2] 37)))
  have M1 := (N1.al (o := Obj.cells #[.slice b2 e2 f2, .bool m2] 37)).al (o := Obj.cells #[.slice none 0 0, .bool false] 37)
  have M2 := N2.al (o := Obj.cells #[.slice none 0 0, .bool false] 37)
  have M3 := N3
  simp only [World.size_alloc] at M2 M3
  have HC := Lib.hid hc
  have HP := Lib.hid hP
  have HnP := Lib.hid hn'
  have HcP := Lib.hid hcP'
  have H0P := Lib.hid hn
  have H0C := Lib.hid hcP
  have HNC := Lib.hid hnc
  have HM1 := Lib.hid M1
  have HM2 := Lib.hid M2
  have HM3 := Lib.hid M3
  have HM0 := Lib.hid hm0
  clear N1 N2 N3 V2 U V R1 R2 hm0 hm2 hc hP hn hcP hn' hcP' hnc hrnd hc0 M1 M2 M3
  go_enter Tryd.func16, Tryd.ntmps16
  change Code.wp _ _ (Held _ _ _) _ _
  go_upto_if 13 with fail
  go_cut [] from 12 to 17 (fun wx => ∃ (a1 : Option Addr) (l1 k1 : Nat) (m1 : Bool) (a2 : Option Addr) (l2 k2 : Nat), NumVar wx w.heap.size n a1 l1 k1 m1 ∧ NumVar wx (w.heap.size + 1) c a2 l2 k2 false ∧ NumVar wx (w.heap.size + 1 + 1) 0 none 0 0 false ∧ decide (n < 0) = m1 ∧ Below w.heap.size w wx)
  case first =>
    rcases HNC.out with ⟨rfl, rfl, rfl⟩ | ⟨rfl, rfl, rfl⟩
    · clear HNC
      go_wp2_with fail
      go_meet
      exact ⟨_, _, _, _, _, _, _, HM1.out, HM2.out, HM3.out, HM0.out, by go_grown⟩
    · clear HNC
      go_wp2_with fail
      refine (neg_any (.agg #[.slice b1 e1 f1, .bool m0]) n0 _ HM1.out.num (HP.out _ (by have := H0P.out; omega))).mono ?_
      rintro e x1 ⟨u1, rfl, T1, P1⟩
      obtain ⟨a1, l1, k1, d1, rfl, R1⟩ := T1
      obtain ⟨m1, hm1⟩ : ∃ m, decide (-n0 < 0) = m := ⟨_, rfl⟩
      have T1 : NumAt x1 (.agg #[.slice a1 l1 k1, .bool m1]) (-n0) := by rw [← hm1]; exact ⟨a1, l1, k1, d1, rfl, R1⟩
      rw [hm1]
      have V1 := HM1.out.up P1
      have V2 := HM2.out.up P1
      have V3 := HM3.out.up P1
      have j0 := V1.c0
      have j1 := V1.c1
      have j2 := V1.f0
      have j3 := V1.f1
      have X1 := V1.put T1
      have X2 := V2.other V1 (by omega) (.slice a1 l1 k1) (.bool m1)
      have X3 := V3.other V1 (by omega) (.slice a1 l1 k1) (.bool m1)
      have j4 := X2.c0
      have j5 := X2.c1
      have j4' := V2.c0
      have j5' := V2.c1
      have B1 : Below w.heap.size w x1 := Below.trans (by go_grown) (P1.mono (by simp; omega))
      have BX : Below w.heap.size w ((x1.setCell ⟨w.heap.size, 0, none⟩ (.slice a1 l1 k1)).setCell ⟨w.heap.size, 1, none⟩ (.bool m1)) := (B1.setCell (by simp) _).setCell (by simp) _
      have HX1 := Lib.hid X1
      have HX2 := Lib.hid X2
      have HX3 := Lib.hid X3
      have HBX := Lib.hid BX
      have HMM := Lib.hid hm1
      clear V1 V2 V3 X1 X2 X3 B1 BX T1 R1 P1 hm1
      go_wp2_with fail
      refine (neg_any (.agg #[.slice b2 e2 f2, .bool true]) c0 _ HX2.out.num (HP.out _ (by have := H0C.out; omega))).mono ?_
      rintro e x2 ⟨u2, rfl, T2, P2⟩
      obtain ⟨a2, l2, k2, d2, rfl, R2⟩ := T2
      have hm2 : decide (-c0 < 0) = false := by have := HC.out; simp; omega
      have T2 : NumAt x2 (.agg #[.slice a2 l2 k2, .bool false]) (-c0) := by rw [← hm2]; exact ⟨a2, l2, k2, d2, rfl, R2⟩
      rw [hm2]
      have Y1 := HX1.out.up P2
      have Y2 := HX2.out.up P2
      have Y3 := HX3.out.up P2
      have j6 := Y2.c0
      have j7 := Y2.c1
      have j8 := Y2.f0
      have j9 := Y2.f1
      have HY1 := Lib.hid (Y1.other Y2 (by omega) (.slice a2 l2 k2) (.bool false))
      have HY2 := Lib.hid (Y2.put T2)
      have HY3 := Lib.hid (Y3.other Y2 (by omega) (.slice a2 l2 k2) (.bool false))
      have HB2 := Lib.hid (HBX.out.trans (P2.mono HBX.out.size))
      clear Y1 Y2 Y3 T2 R2 P2 hm2
      go_wp2_with fail
      go_meet
      exact ⟨_, _, _, _, _, _, _, HY1.out, HY2.out, HY3.out, HMM.out, (HB2.out.setCell (by simp) _).setCell (by simp) _⟩
  case rest =>
  obtain ⟨a1, l1, k1, m1, a2, l2, k2, M1, M2, M3, hm1, BW0⟩ := hcut
  have HM := Lib.hid hm1
  have i1 := M1.c0
  have i1' := M1.c1
  have i2 := M2.c0
  have i2' := M2.c1
  clear hm1 HM1 HM2 HM3 HNC H0P H0C
  go_wp2_with fail
  refine (floor_walk (.agg #[.slice a1 l1 k1, .bool m1]) (.agg #[.slice a2 l2 k2, .bool false]) n c P _ M1.num M2.num HC.out HP.out HnP.out HcP.out).mono ?_
  rintro e x3 ⟨u3, rfl, T3, P3⟩
  obtain ⟨a7, l7, k7, d7, rfl, R7⟩ := T3
  obtain ⟨m7, hm7⟩ : ∃ m, decide (n / c < 0) = m := ⟨_, rfl⟩
  have T7 : NumAt x3 (.agg #[.slice a7 l7 k7, .bool m7]) (n / c) := by rw [← hm7]; exact ⟨a7, l7, k7, d7, rfl, R7⟩
  have hsz := Nat.lt_of_lt_of_le (cell_lt M3.c0) P3.size
  have QW : QV (x3.alloc (Obj.cells #[.slice a7 l7 k7, .bool m7] 37)) w.heap.size x3.heap.size n c (n / c) a1 l1 k1 m1 a2 l2 k2 false a7 l7 k7 m7 := ⟨(M1.up P3).al, (M2.up P3).al, (M3.up P3).al, NumVar.new _ T7, hsz⟩
  have h0 : Below w.heap.size w x3 := BW0.trans (P3.mono BW0.size)
  have BW : Below w.heap.size w (x3.alloc (Obj.cells #[.slice a7 l7 k7, .bool m7] 37)) := h0.alloc h0.size _
  rw [hm7]
  have HR : Hid (n + -(n / c * c) = n % c) := Lib.hid (by have := Int.emod_add_mul_ediv n c; rw [Int.mul_comm] at this; omega)
  clear M1 M2 M3 R7 hm7 T7 i1 i2 i1' i2' h0 BW0
  obtain ⟨W5, hW5⟩ : ∃ W, x3.alloc (Obj.cells #[.slice a7 l7 k7, .bool m7] 37) = W := ⟨_, rfl⟩
  obtain ⟨T7, hT7⟩ : ∃ T, x3.heap.size = T := ⟨_, rfl⟩
  have HLW : Hid (∀ W, Below W5.heap.size W5 W → QV W w.heap.size T7 n c (n / c) a1 l1 k1 m1 a2 l2 k2 false a7 l7 k7 m7) := fun W hW => by rw [← hW5] at hW; rw [← hT7]; exact QW.up hW
  have HBW : Hid (∀ W, Below W5.heap.size W5 W → Below w.heap.size w W) := fun W hW => by rw [← hW5] at hW; exact BW.trans (hW.mono BW.size)
  have hs5 : T7 < W5.heap.size := by rw [← hW5, ← hT7]; simp
  have hrb : 0 ≤ n % c ∧ n % c < c := ⟨Int.emod_nonneg _ (by have := HC.out; omega), Int.emod_lt_of_pos _ HC.out⟩
  have sq : Small (n / c) ∧ Small (n / c * c) ∧ Small (-(n / c * c)) := by
    have h1 := HR.out
    have h2 := HnP.out
    have h3 := HcP.out
    have h4 := HC.out
    have h5 : (n / c).natAbs ≤ (n / c * c).natAbs := by rw [Int.natAbs_mul]; exact Nat.le_mul_of_pos_right _ (by omega)
    generalize n / c * c = y at h1 h5 ⊢
    generalize n / c = q at h5 ⊢
    generalize n % c = r at h1 hrb
    exact ⟨HP.out _ (by omega), HP.out _ (by omega), HP.out _ (by omega)⟩
  have HRB := Lib.hid hrb
  have SQ := Lib.hid sq
  go_upto_region 5 with fail
  clear QW BW P3 hsz sq hrb hW5 hT7
  go_cut [8] from 21 to 26 (fun t8 wx => ∃ (T8 : Nat) (a8 : Option Addr) (l8 k8 : Nat) (m8 : Bool), t8 = .pointer (some ⟨T8, 0, none⟩) ∧ T7 < T8 ∧ QV wx w.heap.size T7 n c (n / c) a1 l1 k1 m1 a2 l2 k2 false a7 l7 k7 m7 ∧ NumVar wx T8 (n % c) a8 l8 k8 m8 ∧ Below w.heap.size w wx)
  case first =>
    have Q0 := HLW.out _ (Below.refl _ _)
    have i0 := Q0.v1.c0
    have i1 := Q0.v1.c1
    have i2 := Q0.v2.c0
    have i3 := Q0.v2.c1
    have i4 := Q0.v7.c0
    have i5 := Q0.v7.c1
    have i6 := fun o1 => hold_alloc o1 i0
    have i7 := fun o1 => hold_alloc o1 i1
    have i8 := fun o1 => hold_alloc o1 i2
    have i9 := fun o1 => hold_alloc o1 i3
    have i10 := fun o1 => hold_alloc o1 i4
    have i11 := fun o1 => hold_alloc o1 i5
    have tB : w.heap.size < T7 := by have := Q0.t; omega
    clear Q0
    go_region_law (first
      | (go_simp; go_at_call 13; refine (mulN_any (.agg #[.slice a7 l7 k7, .bool m7]) (.agg #[.slice a2 l2 k2, .bool false]) (n / c) c _ (HLW.out _ (by go_grown)).v7.num (HLW.out _ (by go_grown)).v2.num SQ.out.1 (HP.out _ (by have := HcP.out; omega))).mono ?_; rintro e x5 ⟨u5, rfl, T5, P5⟩
         have B5 : Below W5.heap.size W5 x5 := Below.trans (by go_grown) (P5.mono (by first | omega | (simp; done) | (simp; omega)))
         have s5 := B5.size
         have z5 := P5.size
         try simp at z5
         have Q5 := HLW.out _ B5
         have p0 := Q5.v1.c0
         have p1 := Q5.v1.c1
         have p2 := fun o1 => hold_alloc o1 p0
         have p3 := fun o1 => hold_alloc o1 p1
         have T5' := Lib.hid T5
         clear T5 Q5)
      | (go_simp; go_at_call 25; refine (neg_any u5 (n / c * c) _ (T5'.out.up (by go_grown)) SQ.out.2.1).mono ?_; rintro e x6 ⟨u6, rfl, T6, P6⟩
         have B6 : Below W5.heap.size W5 x6 := Below.trans (by go_grown) (P6.mono (by first | omega | (simp; done) | (simp; omega)))
         have s6 := B6.size
         have z6 := P6.size
         try simp at z6
         have Q6 := HLW.out _ B6
         have r0 := Q6.v1.c0
         have r1 := Q6.v1.c1
         have r2 := fun o1 => hold_alloc o1 r0
         have r3 := fun o1 => hold_alloc o1 r1
         have T6' := Lib.hid T6
         clear T6 Q6)
      | (go_simp; go_at_call 27; refine (addN_any (.agg #[.slice a1 l1 k1, .bool m1]) u6 n (-(n / c * c)) _ (HLW.out _ (by go_grown)).v1.num (T6'.out.up (by go_grown)) (HP.out _ (by have := HnP.out; omega)) SQ.out.2.2).mono ?_; rintro e x7 ⟨u7, rfl, M7, P7⟩
         obtain ⟨a8, l8, k8, d8, rfl, R8⟩ := M7
         obtain ⟨m8, hm8⟩ : ∃ m, decide (n + -(n / c * c) < 0) = m := ⟨_, rfl⟩
         have B7 : Below W5.heap.size W5 x7 := Below.trans (by go_grown) (P7.mono (by first | omega | (simp; done) | (simp; omega)))
         have T8' : NumAt x7 (.agg #[.slice a8 l8 k8, .bool m8]) (n + -(n / c * c)) := by rw [← hm8]; exact ⟨a8, l8, k8, d8, rfl, R8⟩
         rw [HR.out] at T8'
         have HT8 := Lib.hid T8'
         try (have NZ := (((NumVar.new 37 (zero_num W5)).up ((Below.refl _ _).drew.trans P5)).up P6).up P7
              have TT : T7 < W5.heap.size := hs5
              have q0 := NZ.c0
              have q1 := NZ.c1
              have q2 := NZ.f0
              have q3 := NZ.f1
              have HNZ := Lib.hid NZ
              clear NZ)
         try (have NZ := ((NumVar.new 37 (zero_num x5)).up P6).up P7
              have TT : T7 < x5.heap.size := Nat.lt_of_lt_of_le hs5 s5
              have q0 := NZ.c0
              have q1 := NZ.c1
              have q2 := NZ.f0
              have q3 := NZ.f1
              have HNZ := Lib.hid NZ
              clear NZ)
         try (have NZ := (NumVar.new 37 (zero_num x6)).up P7
              have TT : T7 < x6.heap.size := Nat.lt_of_lt_of_le hs5 s6
              have q0 := NZ.c0
              have q1 := NZ.c1
              have q2 := NZ.f0
              have q3 := NZ.f1
              have HNZ := Lib.hid NZ
              clear NZ)
         rw [hm8]
         clear R8 hm8 T8'))
    all_goals
      go_wp2_with fail
      go_meet
    all_goals first
      | exact ⟨_, _, _, _, _, rfl, TT, (HLW.out _ B7).other HNZ.out TT _ _, HNZ.out.put HT8.out, ((HBW.out _ B7).setCell (Nat.le_of_lt (Nat.lt_trans tB TT)) _).setCell (Nat.le_of_lt (Nat.lt_trans tB TT)) _⟩
      | exact ⟨_, _, _, _, _, rfl, Nat.lt_of_lt_of_le hs5 B7.size, (HLW.out _ B7).al, NumVar.new _ HT8.out, (HBW.out _ B7).alloc (HBW.out _ B7).size _⟩
  case rest =>
    obtain ⟨T8, a8, l8, k8, m8, rfl, hT8, QW, VW, BW⟩ := hcut
    have g0 := VW.c0
    have g1 := QW.v7.c0
    have g2 := QW.v7.c1
    have g3 := QW.vr.c0
    have g4 := QW.vr.c1
    have g5 := QW.vr.f0
    have g6 := QW.vr.f1
    have tB : w.heap.size + 1 + 1 < T7 := QW.t
    by_cases hlow : n % c = 0 ∨ mode = 1
    · have hfin : rnd mode n c = n / c := by
        unfold rnd rndC
        rw [if_neg (by have := HC.out; omega), if_pos hlow]
      have FIN := QW.ret QW.v7.num
      have C0 := FIN.c0
      have C1 := FIN.c1
      have HFIN := Lib.hid FIN
      have HFI := Lib.hid hfin
      have HBX := Lib.hid BW
      have hl : l8 = 0 ∨ (0 < l8 ∧ mode = 1) := by
        by_cases h0 : l8 = 0
        · exact Or.inl h0
        · right
          refine ⟨by omega, ?_⟩
          rcases hlow with h | h
          · exact absurd (num_zero' VW.num h) h0
          · exact h
      clear FIN hfin hlow BW VW QW
      rcases hl with rfl | ⟨hl, rfl⟩
      · go_wp2_with fail
        refine held_ret (v := .agg #[.slice a7 l7 k7, .bool m7]) (by simp [Go.results, Tryd.results16, go_sem, C0, C1]) rfl ?_
        exact ⟨_, rfl, by rw [HFI.out]; exact HFIN.out.num, (HBX.out.setCell (by simp; omega) _).setCell (by simp; omega) _⟩
      · have hl' : ((l8 : Int) == 0) = false := by simp; omega
        go_wp2_with fail
        refine held_ret (v := .agg #[.slice a7 l7 k7, .bool m7]) (by simp [Go.results, Tryd.results16, go_sem, C0, C1]) rfl ?_
        exact ⟨_, rfl, by rw [HFI.out]; exact HFIN.out.num, (HBX.out.setCell (by simp; omega) _).setCell (by simp; omega) _⟩
    · have hm1 : ¬ mode = 1 := fun h => hlow (Or.inr h)
      have hm1' : (mode == 1) = false := by simpa using hm1
      have hr0 : n % c ≠ 0 := fun h => hlow (Or.inl h)
      have hl := num_pos VW.num hr0
      have hl' : ((l8 : Int) == 0) = false := by simp; omega
      have HR0 := Lib.hid hr0
      have HQW := Lib.hid QW
      have HVW := Lib.hid VW
      have HBX := Lib.hid BW
      clear hlow hr0 QW VW BW
      go_upto_region 8 with fail
      have tB2 : w.heap.size < T7 := by omega
      have hs8 : T8 < wc.heap.size := cell_lt HVW.out.c0
      go_cut [9] from 36 to 38 (fun t9 wx => ∃ (T9 : Nat) (a9 : Option Addr) (l9 k9 : Nat) (m9 : Bool), t9 = .pointer (some ⟨T9, 0, none⟩) ∧ QV wx w.heap.size T7 n c (n / c) a1 l1 k1 m1 a2 l2 k2 false a7 l7 k7 m7 ∧ NumVar wx T8 (n % c) a8 l8 k8 m8 ∧ NumVar wx T9 (n / c + 1) a9 l9 k9 m9 ∧ Below w.heap.size w wx)
      case first =>
        have i0 := hold_alloc (w := wc) (o := Obj.cells #[.slice none 0 0, .bool false] 37) g1
        have i1 := hold_alloc (w := wc) (o := Obj.cells #[.slice none 0 0, .bool false] 37) g2
        go_region_law (first
          | (go_simp; go_at_call 14; refine (of_any 1 (by omega) _).mono ?_; rintro e x5 ⟨u5, rfl, T5, P5⟩
             have B5 : Below wc.heap.size wc x5 := Below.trans (by go_grown) (P5.mono (by first | omega | (simp; done) | (simp; omega)))
             have s5 := B5.size
             have Q5 := HQW.out.up B5
             have p0 := Q5.v7.c0
             have p1 := Q5.v7.c1
             have p2 := fun o1 => hold_alloc o1 p0
             have p3 := fun o1 => hold_alloc o1 p1
             have T5' := Lib.hid T5
             clear T5 Q5)
          | (go_simp; go_at_call 27; refine (addN_any (.agg #[.slice a7 l7 k7, .bool m7]) u5 (n / c) 1 _ (HQW.out.up (by go_grown)).v7.num (T5'.out.up (by go_grown)) SQ.out.1 (HP.out _ (by have := HcP.out; omega))).mono ?_; rintro e x7 ⟨u7, rfl, M7, P7⟩
             obtain ⟨a9, l9, k9, d9, rfl, R9⟩ := M7
             obtain ⟨m9, hm9⟩ : ∃ m, decide (n / c + 1 < 0) = m := ⟨_, rfl⟩
             have B7 : Below wc.heap.size wc x7 := Below.trans (by go_grown) (P7.mono (by first | omega | (simp; done) | (simp; omega)))
             have T9' : NumAt x7 (.agg #[.slice a9 l9 k9, .bool m9]) (n / c + 1) := by rw [← hm9]; exact ⟨a9, l9, k9, d9, rfl, R9⟩
             have HT9 := Lib.hid T9'
             try (have NZ := ((NumVar.new 37 (zero_num wc)).up ((Below.refl _ _).drew.trans P5)).up P7
                  have TT : T8 < wc.heap.size := hs8
                  have q0 := NZ.c0
                  have q1 := NZ.c1
                  have q2 := NZ.f0
                  have q3 := NZ.f1
                  have HNZ := Lib.hid NZ
                  clear NZ)
             try (have NZ := (NumVar.new 37 (zero_num x5)).up P7
                  have TT : T8 < x5.heap.size := Nat.lt_of_lt_of_le hs8 s5
                  have q0 := NZ.c0
                  have q1 := NZ.c1
                  have q2 := NZ.f0
                  have q3 := NZ.f1
                  have HNZ := Lib.hid NZ
                  clear NZ)
             rw [hm9]
             clear R9 hm9 T9'))
        all_goals
          go_wp2_with fail
          go_meet
        any_goals exact ⟨_, _, _, _, _, rfl, (HQW.out.up B7).al, (HVW.out.up B7).al, NumVar.new _ HT9.out, (HBX.out.trans (B7.mono HBX.out.size)).alloc (HBX.out.trans (B7.mono HBX.out.size)).size _⟩
        all_goals have z1 := (HQW.out.up B7).other HNZ.out (Nat.lt_trans hT8 TT) (.slice a9 l9 k9) (.bool m9)
        all_goals have z2 := (HVW.out.up B7).other HNZ.out (Nat.ne_of_lt TT) (.slice a9 l9 k9) (.bool m9)
        all_goals have z3 := HNZ.out.put HT9.out
        all_goals exact ⟨_, _, _, _, _, rfl, z1, z2, z3, ((HBX.out.trans (B7.mono HBX.out.size)).setCell (Nat.le_of_lt (Nat.lt_trans tB2 (Nat.lt_trans hT8 TT))) _).setCell (Nat.le_of_lt (Nat.lt_trans tB2 (Nat.lt_trans hT8 TT))) _⟩
      case rest =>
        obtain ⟨T9, a9, l9, k9, m9, rfl, QW, VW, VZ, BW⟩ := hcut
        clear HQW HVW HBX g0 g1 g2 g3 g4 g5 g6
        have g0 := VZ.c0
        have g1 := VZ.c1
        have g3 := QW.vr.c0
        have g4 := QW.vr.c1
        have g5 := QW.vr.f0
        have g6 := QW.vr.f1
        by_cases hm2 : mode = 2
        · subst hm2
          have FIN := QW.ret VZ.num
          have C0 := FIN.c0
          have C1 := FIN.c1
          have HFIN := Lib.hid FIN
          have HBX := Lib.hid BW
          clear FIN QW VW VZ BW
          go_wp2_with fail
          refine held_ret (v := .agg #[.slice a9 l9 k9, .bool m9]) (by simp [Go.results, Tryd.results16, go_sem, C0, C1]) rfl ?_
          exact ⟨_, rfl, by rw [rnd_two HC.out HR0.out]; exact HFIN.out.num, (HBX.out.setCell (by simp; omega) _).setCell (by simp; omega) _⟩
        · have hm2' : (mode == 2) = false := by simpa using hm2
          go_upto_region 11 with fail
          have h0 := VW.c0
          have h1 := VW.c1
          have h2 := QW.v2.c0
          have h3 := QW.v2.c1
          have HQW := Lib.hid QW
          have HVW := Lib.hid VW
          have HVZ := Lib.hid VZ
          have HBX := Lib.hid BW
          have smr : Small (n % c) ∧ Small (n % c + n % c) ∧ Small (n % c + n % c + -c) := by
            have := HRB.out
            have := HcP.out
            have := HC.out
            generalize n % c = r at *
            exact ⟨HP.out _ (by omega), HP.out _ (by omega), HP.out _ (by omega)⟩
          have SMR := Lib.hid smr
          clear QW VW VZ BW smr
          go_cut [10] from 42 to 46 (fun t10 wx => t10 = .int .i64 (cmpI (n % c + n % c) c) ∧ QV wx w.heap.size T7 n c (n / c) a1 l1 k1 m1 a2 l2 k2 false a7 l7 k7 m7 ∧ NumVar wx T9 (n / c + 1) a9 l9 k9 m9 ∧ Below w.heap.size w wx)
          case first =>
            go_region_law (first
              | (go_simp; go_at_call 27; refine (addN_any (.agg #[.slice a8 l8 k8, .bool m8]) (.agg #[.slice a8 l8 k8, .bool m8]) (n % c) (n % c) _ (HVW.out.up (by go_grown)).num (HVW.out.up (by go_grown)).num SMR.out.1 SMR.out.1).mono ?_; rintro e x5 ⟨u5, rfl, T5, P5⟩
                 have B5 := Below.trans (by first | exact (Below.refl _ wc).drew | exact below_drewN (Below.refl _ wc) _) P5
                 have Q5 := HQW.out.up B5
                 have p0 := Q5.v2.c0
                 have p1 := Q5.v2.c1
                 have T5' := Lib.hid T5
                 clear T5 Q5)
              | (go_simp; go_at_call 28; refine (cmp_any u5 (.agg #[.slice a2 l2 k2, .bool false]) (n % c + n % c) c _ T5'.out (HQW.out.up B5).v2.num SMR.out.2.1 (HP.out _ (by have := HcP.out; omega)) SMR.out.2.2).mono ?_; rintro e x6 ⟨rfl, P6⟩
                 have B6 := B5.trans (P6.mono B5.size)))
            all_goals
              go_wp2_with fail
              go_meet
            all_goals exact ⟨rfl, HQW.out.up B6, HVZ.out.up B6, HBX.out.trans (B6.mono HBX.out.size)⟩
          case rest =>
            obtain ⟨rfl, QW, VZ, BW⟩ := hcut
            clear HQW HVW HVZ HBX g0 g1 g3 g4 g5 g6 h0 h1 h2 h3
            have g0 := VZ.c0
            have g1 := VZ.c1
            have g3 := QW.vr.c0
            have g4 := QW.vr.c1
            have g5 := QW.vr.f0
            have g6 := QW.vr.f1
            have h4 := QW.v7.c0
            have h5 := QW.v7.c1
            have h6 := QW.v1.c1
            have FL := QW.ret QW.v7.num
            have FH := QW.ret VZ.num
            have L0 := FL.c0
            have L1 := FL.c1
            have H0 := FH.c0
            have H1 := FH.c1
            have HL := Lib.hid FL
            have HH := Lib.hid FH
            have HBX := Lib.hid BW
            have HEV := Lib.hid (num_even QW.v7.num)
            have HM1 := Lib.hid hm1
            have HM2 := Lib.hid hm2
            clear FL FH QW VZ BW
            by_cases e1 : n % c + n % c < c
            · rw [cmp_lt e1]
              have HE1 := Lib.hid e1
              clear e1
              go_wp2_with fail
              refine held_ret (v := .agg #[.slice a7 l7 k7, .bool m7]) (by simp [Go.results, Tryd.results16, go_sem, L0, L1]) rfl ?_
              exact ⟨_, rfl, by rw [rnd_lt HC.out HM2.out HE1.out]; exact HL.out.num, (HBX.out.setCell (by simp; omega) _).setCell (by simp; omega) _⟩
            · by_cases e2 : c < n % c + n % c
              · rw [cmp_gt e2]
                have HE2 := Lib.hid e2
                clear e1 e2
                go_wp2_with fail
                refine held_ret (v := .agg #[.slice a9 l9 k9, .bool m9]) (by simp [Go.results, Tryd.results16, go_sem, H0, H1]) rfl ?_
                exact ⟨_, rfl, by rw [rnd_gt HC.out HM1.out HM2.out HR0.out HE2.out]; exact HH.out.num, (HBX.out.setCell (by simp; omega) _).setCell (by simp; omega) _⟩
              · have e3 : n % c + n % c = c := by omega
                rw [cmp_eq e3]
                have HE3 := Lib.hid e3
                clear e1 e2 e3
                have hmo : mode = 3 ∨ mode = 4 := by omega
                have HSGN := Lib.hid (decide_eq_iff HM.out)
                clear hm1 hm1' hm2 hm2' HM1 HM2 hmode
                rcases HEV.out with ⟨z0, z1⟩ | ⟨b, off, x0, z0, z1, z2, z3⟩
                · subst z0
                  have HZ1 := Lib.hid z1
                  clear z1 HEV
                  rcases hmo with rfl | rfl
                  · cases m1
                    · have HS := Lib.hid (HSGN.out.2 rfl)
                      go_wp2_with fail
                      refine held_ret (v := .agg #[.slice a9 l9 k9, .bool m9]) (by simp [Go.results, Tryd.results16, go_sem, H0, H1]) rfl ?_
                      exact ⟨_, rfl, by rw [rnd_3 HC.out HR0.out HE3.out, if_neg (by have := HS.out; omega)]; exact HH.out.num, (HBX.out.setCell (by simp; omega) _).setCell (by simp; omega) _⟩
                    · have HS := Lib.hid (HSGN.out.1 rfl)
                      go_wp2_with fail
                      refine held_ret (v := .agg #[.slice a7 0 k7, .bool m7]) (by simp [Go.results, Tryd.results16, go_sem, L0, L1]) rfl ?_
                      exact ⟨_, rfl, by rw [rnd_3 HC.out HR0.out HE3.out, if_pos HS.out]; exact HL.out.num, (HBX.out.setCell (by simp; omega) _).setCell (by simp; omega) _⟩
                  · go_wp2_with fail
                    refine held_ret (v := .agg #[.slice a7 0 k7, .bool m7]) (by simp [Go.results, Tryd.results16, go_sem, L0, L1]) rfl ?_
                    exact ⟨_, rfl, by rw [rnd_4 HC.out HR0.out HE3.out, if_pos HZ1.out]; exact HL.out.num, (HBX.out.setCell (by simp; omega) _).setCell (by simp; omega) _⟩
                · subst z1
                  have z4 : ((l7 : Int) == 0) = false := by simp; omega
                  have z5 : (0 : Int) < (l7 : Int) := by omega
                  have HZ3 := Lib.hid z3
                  clear z3 z0 HEV
                  rcases hmo with rfl | rfl
                  · cases m1
                    · have HS := Lib.hid (HSGN.out.2 rfl)
                      go_wp2_with fail
                      refine held_ret (v := .agg #[.slice a9 l9 k9, .bool m9]) (by simp [Go.results, Tryd.results16, go_sem, H0, H1]) rfl ?_
                      exact ⟨_, rfl, by rw [rnd_3 HC.out HR0.out HE3.out, if_neg (by have := HS.out; omega)]; exact HH.out.num, (HBX.out.setCell (by simp; omega) _).setCell (by simp; omega) _⟩
                    · have HS := Lib.hid (HSGN.out.1 rfl)
                      go_wp2_with fail
                      refine held_ret (v := .agg #[.slice (some ⟨b, off, none⟩) l7 k7, .bool m7]) (by simp [Go.results, Tryd.results16, go_sem, L0, L1]) rfl ?_
                      exact ⟨_, rfl, by rw [rnd_3 HC.out HR0.out HE3.out, if_pos HS.out]; exact HL.out.num, (HBX.out.setCell (by simp; omega) _).setCell (by simp; omega) _⟩
                  · by_cases z6 : (x0 : Int) % 2 = 0
                    · have HZ6 := Lib.hid z6
                      have z7 : ((x0 : Int) % 2 == 0) = true := by simp [z6]
                      go_wp2_with fail
                      refine held_ret (v := .agg #[.slice (some ⟨b, off, none⟩) l7 k7, .bool m7]) (by simp [Go.results, Tryd.results16, go_sem, L0, L1]) rfl ?_
                      exact ⟨_, rfl, by rw [rnd_4 HC.out HR0.out HE3.out, if_pos (by rw [HZ3.out]; exact HZ6.out)]; exact HL.out.num, (HBX.out.setCell (by simp; omega) _).setCell (by simp; omega) _⟩
                    · have HZ6 := Lib.hid z6
                      have z7 : ((x0 : Int) % 2 == 0) = false := by simp [z6]
                      go_wp2_with fail
                      refine held_ret (v := .agg #[.slice a9 l9 k9, .bool m9]) (by simp [Go.results, Tryd.results16, go_sem, H0, H1]) rfl ?_
                      exact ⟨_, rfl, by rw [rnd_4 HC.out HR0.out HE3.out, if_neg (by rw [HZ3.out]; exact HZ6.out)]; exact HH.out.num, (HBX.out.setCell (by simp; omega) _).setCell (by simp; omega) _⟩
end Go.Proofs.YtpddnmkoiplmkaaDoor
