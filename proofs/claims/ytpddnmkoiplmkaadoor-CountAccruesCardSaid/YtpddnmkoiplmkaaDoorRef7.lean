/- The contract of the long numbers' floor (trivetref01.floor). -/
import Derived.Test.YtpddnmkoiplmkaaDoorRef6
namespace Go.Proofs.YtpddnmkoiplmkaaDoor
open Go Go.RowKit
set_option linter.unusedVariables false
attribute [local go_sem] build_num run_field_D

theorem NumVar.al {w : World} {N : Nat} {n : Int} {a : Option Addr} {len cap : Nat} {m : Bool} {o : Obj} (h : NumVar w N n a len cap m) : NumVar (w.alloc o) N n a len cap m := h.up ((Below.refl _ _).alloc (Nat.le_refl _) _)

theorem and_one (y : Nat) (h : y < 65536) : bits .and .u64 (y : Int) 1 = ((y % 2 : Nat) : Int) := by
  have h2 : (BitVec.ofInt 64 (y : Int)).toNat = y := by
    rw [BitVec.ofInt_natCast, BitVec.toNat_ofNat]; exact Nat.mod_eq_of_lt (by omega)
  have h3 : (BitVec.ofInt 64 1).toNat = 1 := by decide
  show IntKind.u64.wrap ((BitVec.ofInt 64 (y : Int) &&& BitVec.ofInt 64 1).toNat : Int) = _
  rw [BitVec.toNat_and, h2, h3, Nat.and_one_is_mod, wrapU']
  omega

theorem bit_is (x s b : Nat) (hx : x < 65536) (h : x / 2 ^ s % 2 = b) : bits .and .u64 ((x : Int) / 2 ^ s) 1 = (b : Int) := by
  have e : (x : Int) / 2 ^ s = ((x / 2 ^ s : Nat) : Int) := by simp
  rw [e, and_one _ (Nat.lt_of_le_of_lt (Nat.div_le_self _ _) hx), h]

theorem cmp_lt {x y : Int} (h : x < y) : cmpI x y = -1 := by
  unfold cmpI
  rw [if_neg (by omega), if_pos h]

theorem cmp_ge {x y : Int} (h : ¬ x < y) : 0 ≤ cmpI x y := by
  unfold cmpI
  split
  · omega
  · omega

theorem one_cell (W : World) {k : Nat} (h : W.heap.size = k) : Cells (W.alloc (Obj.cells #[.int .u64 1] 53)) (some ⟨k, 0, none⟩) 1 ([1].map d64) := by
  subst h
  exact cells_new W (.int .u64 1) 53

theorem num_zero {w : World} {a : Option Addr} {l c : Nat} {m : Bool} (h : NumAt w (.agg #[.slice a l c, .bool m]) ((0 : Nat) : Int)) : l = 0 := by
  obtain ⟨a2, l2, c2, ds, he, hr⟩ := h
  simp only [Value.agg.injEq, Array.mk.injEq, List.cons.injEq, Value.slice.injEq, Value.bool.injEq, and_true] at he
  obtain ⟨⟨rfl, rfl, rfl⟩, rfl⟩ := he
  exact (num_len hr).1 rfl

theorem num_pos {w : World} {a : Option Addr} {l c : Nat} {m : Bool} {n : Int} (h : NumAt w (.agg #[.slice a l c, .bool m]) n) (hn : n ≠ 0) : (0 : Int) < (l : Int) := by
  obtain ⟨a2, l2, c2, ds, he, hr⟩ := h
  simp only [Value.agg.injEq, Array.mk.injEq, List.cons.injEq, Value.slice.injEq, Value.bool.injEq, and_true] at he
  obtain ⟨⟨rfl, rfl, rfl⟩, rfl⟩ := he
  have := (num_len hr).2 hn
  omega

set_option maxRecDepth 100000 in
set_option maxHeartbeats 16000000 in
theorem floor_walk (u v : Value) (n c : Int) (P : Nat) (w : World) (hu : NumAt w u n) (hv : NumAt w v c) (hc : 0 < c) (hP : ∀ x : Int, x.natAbs ≤ 4 * P → Small x) (hn : n.natAbs < P) (hcP : c.natAbs < P) :
    Calls Tryd.prog 26 #[u, v] w (NumTo w (n / c)) := by
  obtain ⟨a1, l1, k1, ds, rfl, R1⟩ := hu
  obtain ⟨a2, l2, k2, d2, rfl, R2⟩ := hv
  obtain ⟨N, hN⟩ : ∃ N, n.natAbs = N := ⟨_, rfl⟩
  obtain ⟨C, rfl⟩ : ∃ C : Nat, c = (C : Int) := ⟨c.toNat, by omega⟩
  obtain ⟨m1, hm1⟩ : ∃ m, decide (n < 0) = m := ⟨_, rfl⟩
  obtain ⟨m2, hm2⟩ : ∃ m, decide ((C : Int) < 0) = m := ⟨_, rfl⟩
  have len1 : ds.length = l1 := by have := R1.1.1; rwa [List.length_map] at this
  have dig : Digits ds := R1.2.2.2.1.1
  have hvN : val ds = N := by rw [R1.2.2.2.2, hN]
  have l60 : l1 ≤ 60 := by rw [← len1]; exact canon_len R1.2.2.2.1 (by rw [R1.2.2.2.2]; exact hP n (by omega))
  have hNlt : N < 2 ^ (16 * l1) := by
    have := val_lt ds dig
    rw [hvN, len1] at this
    rw [Nat.pow_mul]
    exact this
  have U : NumAt w (.agg #[.slice a1 l1 k1, .bool m1]) n := by rw [← hm1]; exact ⟨a1, l1, k1, ds, rfl, R1⟩
  have V : NumAt w (.agg #[.slice a2 l2 k2, .bool m2]) (C : Int) := by rw [← hm2]; exact ⟨a2, l2, k2, d2, rfl, R2⟩
  rw [hm1, hm2]
  have CN : Hid (∀ W, Below w.heap.size w W → Cells W a1 l1 (ds.map d64)) := fun W hW => R1.1.up hW
  have N1 := (NumVar.new 37 U)
  have V2 : NumAt (w.alloc (Obj.cells #[.slice a1 l1 k1, .bool m1] 37)) (.agg #[.slice a2 l2 k2, .bool m2]) (C : Int) := V.up ((Below.refl _ _).alloc (Nat.le_refl _) _)
  have N2 := (NumVar.new 37 V2)
  have N3 := NumVar.new 37 (zero_num ((w.alloc (Obj.cells #[.slice a1 l1 k1, .bool m1] 37)).alloc (Obj.cells #[.slice a2 l2 k2, .bool m2] 37)))
  have N4 := NumVar.new 37 (zero_num (((w.alloc (Obj.cells #[.slice a1 l1 k1, .bool m1] 37)).alloc (Obj.cells #[.slice a2 l2 k2, .bool m2] 37)).alloc (Obj.cells #[.slice none 0 0, .bool false] 37)))
  have M1 := (N1.al (o := Obj.cells #[.slice a2 l2 k2, .bool m2] 37)).al (o := Obj.cells #[.slice none 0 0, .bool false] 37) |>.al (o := Obj.cells #[.slice none 0 0, .bool false] 37)
  have M2 := (N2.al (o := Obj.cells #[.slice none 0 0, .bool false] 37)).al (o := Obj.cells #[.slice none 0 0, .bool false] 37)
  have M3 := N3.al (o := Obj.cells #[.slice none 0 0, .bool false] 37)
  have M4 := N4
  simp only [World.size_alloc] at M2 M3 M4
  have HN := Lib.hid hN
  have HM := Lib.hid hm1
  have HL := Lib.hid len1
  have HD := Lib.hid dig
  have HV := Lib.hid hvN
  have HNL := Lib.hid hNlt
  have hP' : ∀ k : Nat, Small (k : Int) → k < 65536 ^ 60 := fun k h => by unfold Small at h; simpa using h
  have HC := Lib.hid hc
  have HP := Lib.hid hP
  have HnP : Hid (N < P) := Lib.hid (by omega)
  have HcP : Hid (C < P) := Lib.hid (by omega)
  clear N1 N2 N3 N4 V2 U V R1 R2 hN hm1 hm2 len1 dig hvN hNlt hc hP hn hcP
  go_enter Tryd.func26, Tryd.ntmps26
  change Code.wp _ _ (Held _ _ _) _ _
  go_wp2_with fail
  refine (of_any 2 (by omega) _).mono ?_
  rintro e x1 ⟨u1, rfl, T1, P1⟩
  obtain ⟨a4, l4, k4, d4, rfl, R4⟩ := T1
  obtain ⟨m4, hm4⟩ : ∃ m, decide ((2 : Int) < 0) = m := ⟨_, rfl⟩
  have T1 : NumAt x1 (.agg #[.slice a4 l4 k4, .bool m4]) 2 := by rw [← hm4]; exact ⟨a4, l4, k4, d4, rfl, R4⟩
  have hsz := P1.size
  simp only [World.size_alloc] at hsz
  have F0 : FV (x1.alloc (Obj.cells #[.slice a4 l4 k4, .bool m4] 37)) w.heap.size x1.heap.size n C 0 a1 l1 k1 m1 a2 l2 k2 m2 none 0 0 false a4 l4 k4 m4 := ⟨(M1.up P1).al, (M2.up P1).al, (M3.up P1).al, (M4.up P1).al, NumVar.new _ T1, by omega⟩
  have HF0 := Lib.hid F0
  have h0 : Below w.heap.size w x1 := Below.trans (by go_grown) (P1.mono (by simp; omega))
  have B1 : Hid (Below w.heap.size w (x1.alloc (Obj.cells #[.slice a4 l4 k4, .bool m4] 37))) := Lib.hid (h0.alloc h0.size _)
  have q0 := F0.v1.c0
  rw [hm4]
  clear M1 M2 M3 M4 R4 hm4 T1 F0 h0
  go_wp2_with fail
  go_loopw [5, 8] (fun q i wr => ∃ (k : Nat) (qa : Option Addr) (ql qc : Nat) (qs : List Nat) (a3 : Option Addr) (l3 k3 : Nat) (m3 : Bool), i = .int .i64 ((k : Int) - 1) ∧ k ≤ 16 * l1 ∧ q = .slice qa ql qc ∧
      (Cells wr qa ql (qs.map d64) ∧ ql ≤ 100 ∧ Digits qs ∧ NilOk qa qc ∧ ql ≤ qc ∧ val qs = N / 2 ^ k / C) ∧ FV wr w.heap.size x1.heap.size n C ((N / 2 ^ k % C : Nat) : Int) a1 l1 k1 m1 a2 l2 k2 m2 a3 l3 k3 m3 a4 l4 k4 m4 ∧ Below w.heap.size w wr)
      (fun _ i _ => (RowKit.intOf i + 1).toNat)
  case atStart =>
    have e0 : N / 2 ^ (16 * l1) = 0 := Nat.div_eq_of_lt HNL.out
    refine ⟨16 * l1, none, 0, 0, [], none, 0, 0, false, by go_num, Nat.le_refl _, rfl, ⟨⟨rfl, Or.inl rfl⟩, by omega, digits_nil, nil_none, Nat.le_refl _, by rw [e0]; simp [val]⟩, ?_, B1.out⟩
    rw [e0, Nat.zero_mod]
    exact HF0.out
  case round =>
    obtain ⟨k, qa, ql, qc, qs, a3, l3, k3, m3, rfl, hk, rfl, hq, hF, hbel⟩ := hrel
    by_cases h0 : k = 0
    · subst h0
      have ei : ((0 : Nat) : Int) - 1 = -1 := rfl
      rw [ei]
      clear ei
      rw [Nat.pow_zero, Nat.div_one] at hq hF
      have hC0 : 0 < C := by have := HC.out; omega
      have g1 := hF.v1.c1
      have HQ := Lib.hid hq
      have HF := Lib.hid hF
      clear hq hF HF0
      go_wp2_with fail
      refine (norm_any qa ql qc qs m1 _ HQ.out.1 HQ.out.2.2.1 (by have := HQ.out.2.1; omega) HQ.out.2.2.2.2.1).mono ?_
      rintro e x2 ⟨kk, hkk, rfl, can2, V2, P2⟩
      obtain ⟨s0, hs0⟩ : ∃ s0 : Int, (if m1 then -((N / C : Nat) : Int) else ((N / C : Nat) : Int)) = s0 := ⟨_, rfl⟩
      obtain ⟨mq, hmq⟩ : ∃ mq, (m1 && decide (0 < kk)) = mq := ⟨_, rfl⟩
      have Tq : NumAt x2 (.agg #[.slice qa kk qc, .bool mq]) s0 := by
        rw [← hmq]
        refine norm_num (HQ.out.1.up P2) hkk can2 V2 HQ.out.2.2.2.1 HQ.out.2.2.2.2.1 (by rw [HQ.out.2.2.2.2.2, ← hs0]; generalize N / C = D; cases m1 <;> simp) (fun h0 => ?_)
        rw [HQ.out.2.2.2.2.2] at h0
        rw [← hs0]
        generalize N / C = D at h0 ⊢
        cases m1 <;> simp <;> omega
      rw [hmq]
      have Fx := (HF.out.up P2).up ((Below.refl _ _).alloc (Nat.le_refl _) (Obj.cells #[.slice qa kk qc, .bool mq] 37))
      have NQ := NumVar.new 37 Tq
      have hne : w.heap.size + 1 + 1 < x2.heap.size := cell_lt (HF.out.up P2).vr.c0
      have bel2 := hbel.trans (P2.mono hbel.size)
      have BX : Below w.heap.size w (x2.alloc (Obj.cells #[.slice qa kk qc, .bool mq] 37)) := bel2.alloc bel2.size _
      have e4 := (HF.out.up P2).vr.c0
      have e5 := (HF.out.up P2).vr.c1
      have e6 := (HF.out.up P2).vr.f0
      have e7 := (HF.out.up P2).vr.f1
      have HFY := Lib.hid (HF.out.up P2)
      have HTQ := Lib.hid Tq
      have HB2 := Lib.hid bel2
      have f1 := Fx.v1.c1
      have f3 := Fx.v3.c0
      have f4 := Fx.vr.c0
      have f5 := Fx.vr.c1
      have f6 := Fx.vr.f0
      have f7 := Fx.vr.f1
      have f8 := NQ.c0
      have f9 := NQ.c1
      have f10 := NQ.f0
      have f11 := NQ.f1
      have HFx := Lib.hid Fx
      have HNQ := Lib.hid NQ
      have HBX := Lib.hid BX
      have HS := Lib.hid hs0
      clear Fx NQ BX hmq V2 can2 P2 bel2 hs0 Tq hbel HF
      by_cases hplain : m1 = false ∨ N % C = 0
      · have hfin : s0 = n / (C : Int) := by
          rw [← HS.out]
          have h1 := HN.out
          have h2 := HM.out
          cases m1 with
          | false =>
            have : n = (N : Int) := by simp at h2; omega
            rw [this]; simp
          | true =>
            have : n = -(N : Int) := by simp at h2; omega
            rw [this, div_neg N C hC0, if_pos (hplain.resolve_left (fun h => by cases h))]
            rfl
        have FIN := (HFY.out.vr.put HTQ.out).al (o := Obj.cells #[.slice qa kk qc, .bool mq] 37)
        have C0 := FIN.c0
        have C1 := FIN.c1
        have HFIN := Lib.hid FIN
        have HFI := Lib.hid hfin
        clear FIN hfin
        have hl3 : m1 = false ∨ l3 = 0 := by
          rcases hplain with h | h
          · exact Or.inl h
          · right
            have := HFx.out.v3.num
            rw [h] at this
            exact num_zero this
        clear hplain
        rcases hl3 with rfl | rfl
        · go_wp2_with fail
          refine held_ret (v := .agg #[.slice qa kk qc, .bool mq]) (by simp [Go.results, Tryd.results26, go_sem, C0, C1]) rfl ?_
          exact ⟨_, rfl, by rw [← HFI.out]; exact HFIN.out.num, ((HB2.out.setCell (by simp; omega) _).setCell (by simp; omega) _).alloc (by have := HB2.out.size; simpa using this) _⟩
        · cases m1
          all_goals
            go_wp2_with fail
            refine held_ret (v := .agg #[.slice qa kk qc, .bool mq]) (by simp [Go.results, Tryd.results26, go_sem, C0, C1]) rfl ?_
            exact ⟨_, rfl, by rw [← HFI.out]; exact HFIN.out.num, ((HB2.out.setCell (by simp; omega) _).setCell (by simp; omega) _).alloc (by have := HB2.out.size; simpa using this) _⟩
      · obtain ⟨rfl, hR⟩ : m1 = true ∧ N % C ≠ 0 := by
          constructor
          · cases m1 <;> simp at hplain ⊢
          · intro h; exact hplain (Or.inr h)
        have hl3 : (0 : Int) < (l3 : Int) := num_pos HFx.out.v3.num (fun h => hR (Int.ofNat.inj h))
        have hfin : s0 + -1 = n / (C : Int) := by
          rw [← HS.out]
          have h1 := HN.out
          have h2 := HM.out
          have : n = -(N : Int) := by simp at h2; omega
          rw [this, div_neg N C hC0, if_neg hR]
          simp
        have HFI := Lib.hid hfin
        have HSM : Hid (s0.natAbs ≤ P) := Lib.hid (by
          rw [← HS.out]
          have := HnP.out
          have h1 : N / C ≤ N := Nat.div_le_self _ _
          generalize N / C = D at h1 ⊢
          simp; omega)
        clear hfin hplain hR
        go_wp2_with fail
        go_region_law (first
          | (go_simp; go_at_call 14; refine (of_any (-1) (by omega) _).mono ?_; rintro e x3 ⟨u3, rfl, T3, P3⟩
             have BX3 := Below.trans (by first | exact (Below.refl _ (x2.alloc (Obj.cells #[.slice qa kk qc, .bool mq] 37))).drew | exact below_drewN (Below.refl _ (x2.alloc (Obj.cells #[.slice qa kk qc, .bool mq] 37))) _) P3
             have V3 := HNQ.out.up BX3
             have z0 := V3.c0
             have z1 := V3.c1
             have HV3 := Lib.hid V3
             have T3' := Lib.hid T3
             clear V3 T3 P3)
          | (go_simp; go_at_call 27; refine (addN_any (.agg #[.slice qa kk qc, .bool mq]) u3 s0 (-1) _ HV3.out.num T3'.out (HP.out _ (by have := HSM.out; omega)) (HP.out _ (by have := HcP.out; omega))).mono ?_; rintro e x4 ⟨u4, rfl, T4, P4⟩
             obtain ⟨a6, l6, k6, d6, rfl, R6⟩ := T4
             obtain ⟨m6, hm6⟩ : ∃ m, decide (s0 + -1 < 0) = m := ⟨_, rfl⟩
             have V4 := (HV3.out.up P4)
             have z0' := V4.c0
             have z1' := V4.c1
             have z2' := V4.f0
             have z3' := V4.f1
             have BX4 := BX3.trans (P4.mono BX3.size)
             have T5 : NumAt x4 (.agg #[.slice a6 l6 k6, .bool m6]) (s0 + -1) := by rw [← hm6]; exact ⟨a6, l6, k6, d6, rfl, R6⟩
             have V5 := V4.put T5
             have Y4 := (HFx.out.up BX4).vr
             have Y5 := Y4.other V4 (by omega) (.slice a6 l6 k6) (.bool m6)
             have y0 := Y4.c0
             have y1 := Y4.c1
             have y2 := Y4.f0
             have y3 := Y4.f1
             have y4 := Y5.c0
             have y5 := Y5.c1
             have y6 := Y5.f0
             have y7 := Y5.f1
             have y8 := V5.c0
             have y9 := V5.c1
             have FIN := Y5.put V5.num
             have C0 := FIN.c0
             have C1 := FIN.c1
             have HFIN := Lib.hid FIN
             have HB9 := Lib.hid (HBX.out.trans (BX4.mono HBX.out.size))
             rw [hm6]
             clear V4 V5 R6 hm6 P4 T5 Y4 Y5 FIN BX4))
        all_goals
          go_wp2_with fail
          refine held_ret (v := .agg #[.slice a6 l6 k6, .bool m6]) (by simp [Go.results, Tryd.results26, go_sem, C0, C1]) rfl ?_
          exact ⟨_, rfl, by rw [← HFI.out]; exact HFIN.out.num, (((HB9.out.setCell (by simp; omega) _).setCell (by simp; omega) _).setCell (by simp; omega) _).setCell (by simp; omega) _⟩
    · obtain ⟨j, rfl⟩ : ∃ j, k = j + 1 := ⟨k - 1, by omega⟩
      have ei : ((j + 1 : Nat) : Int) - 1 = (j : Int) := by omega
      rw [ei]
      clear ei
      obtain ⟨R, hR⟩ : ∃ R, N / 2 ^ (j + 1) % C = R := ⟨_, rfl⟩
      obtain ⟨Q, hQ⟩ : ∃ Q, N / 2 ^ (j + 1) / C = Q := ⟨_, rfl⟩
      obtain ⟨b, hb⟩ : ∃ b, N / 2 ^ j % 2 = b := ⟨_, rfl⟩
      have hb1 : b ≤ 1 := by omega
      have hC0 : 0 < C := by have := HC.out; omega
      have hRC : R < C := by rw [← hR]; exact Nat.mod_lt _ hC0
      have hQN : Q ≤ N := by rw [← hQ]; exact Nat.le_trans (Nat.div_le_self _ _) (Nat.div_le_self _ _)
      obtain ⟨s1, s2⟩ := fl_step C (N / 2 ^ (j + 1)) b hC0
      have hm := half_more N j
      rw [hb] at hm
      rw [← hm, hR, hQ] at s1 s2
      rw [hR] at hF
      rw [hQ] at hq
      have S1 := Lib.hid s1
      have S2 := Lib.hid (s2 hb1)
      have HB := Lib.hid hb
      have HRC := Lib.hid hRC
      have HQN := Lib.hid hQN
      clear s1 s2 hb hm hR hQ hRC hQN hC0
      have j1 : (0 : Int) ≤ (j : Int) := by omega
      have g3 := hF.v3.c0
      have g3' := hF.v3.c1
      have g4 := hF.v4.c0
      have g4' := hF.v4.c1
      have HF := Lib.hid hF
      have HQ := Lib.hid hq
      clear hF hq HF0
      go_wp2_with fail
      refine (mulN_any (.agg #[.slice a3 l3 k3, .bool m3]) (.agg #[.slice a4 l4 k4, .bool m4]) R 2 _ HF.out.v3.num HF.out.v4.num (HP.out _ (by have := HRC.out; have := HcP.out; omega)) (HP.out _ (by have := HcP.out; omega))).mono ?_
      rintro e x2 ⟨u2, rfl, T2, P2⟩
      obtain ⟨a5, l5, k5, d5, rfl, R5⟩ := T2
      obtain ⟨m5, hm5⟩ : ∃ m, decide ((R : Int) * 2 < 0) = m := ⟨_, rfl⟩
      have T2 : NumAt x2 (.agg #[.slice a5 l5 k5, .bool m5]) ((R : Int) * 2) := by rw [← hm5]; exact ⟨a5, l5, k5, d5, rfl, R5⟩
      rw [hm5]
      have F2 := (HF.out.up P2)
      have e0 := F2.v3.c0
      have e1 := F2.v3.c1
      have e2 := F2.v3.f0
      have e3 := F2.v3.f1
      have F3 := F2.put T2
      have g1 := F3.v1.c0
      have bel2 := hbel.trans (P2.mono hbel.size)
      have bel3 : Below w.heap.size w ((x2.setCell ⟨w.heap.size + 1 + 1 + 1, 0, none⟩ (.slice a5 l5 k5)).setCell ⟨w.heap.size + 1 + 1 + 1, 1, none⟩ (.bool m5)) := (bel2.setCell (by simp; omega) _).setCell (by simp; omega) _
      obtain ⟨ba, fa, rfl, cdig⟩ := (CN.out _ bel3).digit (i := j / 16) (by omega)
      obtain ⟨p, hp⟩ : ∃ p, j / 16 = p := ⟨_, rfl⟩
      obtain ⟨s, hs⟩ : ∃ s, j % 16 = s := ⟨_, rfl⟩
      obtain ⟨x, hx⟩ : ∃ x, ds.getD p 0 = x := ⟨_, rfl⟩
      rw [hp, hx] at cdig
      have hxb : x < 65536 := by rw [← hx]; exact HD.out.get p
      have hbit : x / 2 ^ s % 2 = b := by rw [← hx, ← hs, ← hp, ← val_bit ds HD.out, HV.out]; exact HB.out
      have qb := bit_is x s b hxb hbit
      have q1 : (j : Int) / 16 = (p : Int) := by omega
      have q2 : (j : Int) % 16 = (s : Int) := by omega
      have q3 : (p : Int) < (l1 : Int) := by omega
      have q4 : (0 : Int) ≤ (p : Int) := by omega
      obtain ⟨r6, hr6⟩ : ∃ r6, 2 * R + b = r6 := ⟨_, rfl⟩
      rw [hr6] at S1 S2
      have HT2 := Lib.hid F3
      have HB3 := Lib.hid bel3
      have CQ : Hid (∀ W, Below ((x2.setCell ⟨w.heap.size + 1 + 1 + 1, 0, none⟩ (.slice a5 l5 k5)).setCell ⟨w.heap.size + 1 + 1 + 1, 1, none⟩ (.bool m5)).heap.size ((x2.setCell ⟨w.heap.size + 1 + 1 + 1, 0, none⟩ (.slice a5 l5 k5)).setCell ⟨w.heap.size + 1 + 1 + 1, 1, none⟩ (.bool m5)) W → Cells W qa ql (qs.map d64)) := fun W hW => (F2.keep (HQ.out.1.up P2) _ _).up hW
      clear F2 F3 T2 R5 hm5 bel2 hp hs hx P2 HF bel3 hbit hxb HB hbel
      rcases (show b = 0 ∨ b = 1 by omega) with rfl | rfl
      · go_wp2_with fail
        have F6 := HT2.out
        rw [show (R : Int) * 2 = (r6 : Int) by omega] at F6
        refine (plus_any qa qa ql ql qc qc qs qs _ (CQ.out _ (Below.refl _ _)) (CQ.out _ (Below.refl _ _)) HQ.out.2.2.1 HQ.out.2.2.1 (by have := HQ.out.2.1; omega) (by have := HQ.out.2.1; omega)).mono ?_
        rintro e x5 ⟨v5, ds5, n5, rfl, O5, D5, V5, N5, P5⟩
        obtain ⟨a6, l6, k6, m6, G6⟩ : ∃ a6 l6 k6 m6, FV x5 w.heap.size x1.heap.size n C (r6 : Int) (some ⟨ba, fa, none⟩) l1 k1 m1 a2 l2 k2 m2 a6 l6 k6 m6 a4 l4 k4 m4 := ⟨_, _, _, _, F6.up P5⟩
        have B5 := HB3.out.trans (P5.mono HB3.out.size)
        clear F6 P5
        obtain ⟨qa5, qc5, rfl, C5, nil5, cap5, _⟩ := own_slice O5
        have V5' : val ds5 = 2 * Q := by rw [V5]; have := HQ.out.2.2.2.2.2; omega
        have n5b : n5 ≤ 101 := by have := HQ.out.2.1; omega
        have l5b : ds5.length = n5 := by have := C5.1; rwa [List.length_map] at this
        clear O5 V5 N5
        go_wp2_with fail
        refine (norm_any qa5 n5 qc5 ds5 false _ C5 D5 (by omega) cap5).mono ?_
        rintro e x6 ⟨kk, hkk, rfl, can6, V6, P6⟩
        have G7 := G6.up P6
        have y0 := G7.v3.c0
        have y1 := G7.v3.c1
        have y2 := G7.v2.c0
        have y3 := G7.v2.c1
        have C6 := (C5.up P6).take (k := kk) (by omega)
        have B6 := B5.trans (P6.mono B5.size)
        have kk60 : kk ≤ 60 := by
          have e1 : (ds5.take kk).length = kk := by rw [List.length_take]; omega
          rw [← e1]
          refine canon_len can6 ?_
          rw [V6, V5']
          exact hP' _ (HP.out ((2 * Q : Nat) : Int) (by have := HQN.out; have := HnP.out; omega))
        have hkc : kk ≤ qc5 := by omega
        clear C5 G6 P6 B5 D5
        have HG7 := Lib.hid G7
        clear G7
        go_wp2_with fail
        refine (cmp_any (.agg #[.slice a6 l6 k6, .bool m6]) (.agg #[.slice a2 l2 k2, .bool m2]) r6 C _ HG7.out.v3.num HG7.out.v2.num (HP.out _ (by have := HRC.out; have := HcP.out; omega)) (HP.out _ (by have := HcP.out; omega)) (HP.out _ (by have := HRC.out; have := HcP.out; omega))).mono ?_
        rintro e x7 ⟨rfl, P7⟩
        have G8 := HG7.out.up P7
        have C7 := C6.up P7
        have B7 := B6.trans (P7.mono B6.size)
        have y4 := G8.v3.c0
        have y5 := G8.v3.c1
        have y6 := G8.v2.c0
        have y7 := G8.v2.c1
        clear C6 B6 P7
        have HG8 := Lib.hid G8
        clear G8
        by_cases hlt : r6 < C
        · rw [cmp_lt (by omega)]
          obtain ⟨t1, t2⟩ := S1.out hlt
          have HT1 := Lib.hid t1
          have HT2 := Lib.hid t2
          clear t1 t2 hlt
          go_wp2_with fail
          go_roundw
          case rel => exact ⟨j, qa5, kk, qc5, ds5.take kk, a6, l6, k6, m6, by go_num, by omega, rfl, ⟨C7, by omega, can6.1, nil5, by omega, by rw [V6, V5', HT1.out]⟩, by rw [HT2.out]; exact HG8.out, B7⟩
          case measure => first | (simp [RowKit.intOf]; done) | (simp [RowKit.intOf]; omega)
        · obtain ⟨sg, hsg⟩ : ∃ sg, cmpI (r6 : Int) (C : Int) = sg := ⟨_, rfl⟩
          have hs0 : 0 ≤ sg := by rw [← hsg]; exact cmp_ge (by omega)
          rw [hsg]
          obtain ⟨t1, t2⟩ := S2.out hlt
          have HT1 := Lib.hid t1
          have HT2 := Lib.hid t2
          have HLT := Lib.hid hlt
          clear t1 t2 hlt hsg
          go_wp2_with fail
          go_region_law (first
            | (go_simp; go_at_call 25; refine (neg_any (.agg #[.slice a2 l2 k2, .bool m2]) C _ (HG8.out.up (by first | exact (Below.refl _ _).drew | exact below_drewN (Below.refl _ _) _)).v2.num (HP.out _ (by have := HcP.out; omega))).mono ?_; rintro e x8 ⟨u8, rfl, T8, P8⟩
               have BX8 : Below x7.heap.size x7 x8 := Below.trans (by first | exact (Below.refl _ _).drew | exact below_drewN (Below.refl _ _) _) P8
               have V8 := HG8.out.up BX8
               have z0 := V8.v3.c0
               have z1 := V8.v3.c1
               have HV8 := Lib.hid V8
               have T8' := Lib.hid T8
               clear V8 T8 P8)
            | (go_simp; go_at_call 27; refine (addN_any (.agg #[.slice a6 l6 k6, .bool m6]) u8 r6 (-(C : Int)) _ HV8.out.v3.num T8'.out (HP.out _ (by have := HRC.out; have := HcP.out; omega)) (HP.out _ (by have := HcP.out; omega))).mono ?_; rintro e x9 ⟨u9, rfl, T9, P9⟩
               obtain ⟨a7, l7, k7, d7, rfl, R7⟩ := T9
               obtain ⟨m7, hm7⟩ : ∃ m, decide ((r6 : Int) + -(C : Int) < 0) = m := ⟨_, rfl⟩
               have V9 := (HV8.out.up P9)
               have z0' := V9.v3.c0
               have z1' := V9.v3.c1
               have z2' := V9.v3.f0
               have z3' := V9.v3.f1
               have T10 : NumAt x9 (.agg #[.slice a7 l7 k7, .bool m7]) ((r6 : Int) + -(C : Int)) := by rw [← hm7]; exact ⟨a7, l7, k7, d7, rfl, R7⟩
               have V10 := V9.put T10
               have er : (r6 : Int) + -(C : Int) = ((r6 - C : Nat) : Int) := by have := HLT.out; omega
               rw [er] at V10
               clear er T10
               have HV10 := Lib.hid V10
               have HB10 : Hid (Below w.heap.size w ((x9.setCell ⟨w.heap.size + 1 + 1 + 1, 0, none⟩ (.slice a7 l7 k7)).setCell ⟨w.heap.size + 1 + 1 + 1, 1, none⟩ (.bool m7))) :=
                 Lib.hid (((B7.trans ((BX8.trans (P9.mono BX8.size)).mono B7.size)).setCell (by simp; omega) _).setCell (by simp; omega) _)
               have HN10 : Hid (Cells (((x9.setCell ⟨w.heap.size + 1 + 1 + 1, 0, none⟩ (.slice a7 l7 k7)).setCell ⟨w.heap.size + 1 + 1 + 1, 1, none⟩ (.bool m7)).alloc (Obj.cells #[.int .u64 1] 53)) (some ⟨x9.heap.size, 0, none⟩) 1 ([1].map d64)) := Lib.hid (one_cell _ (by simp))
               have HC10 : Hid (Cells ((x9.setCell ⟨w.heap.size + 1 + 1 + 1, 0, none⟩ (.slice a7 l7 k7)).setCell ⟨w.heap.size + 1 + 1 + 1, 1, none⟩ (.bool m7)) qa5 kk ((ds5.take kk).map d64)) := Lib.hid (V9.keep (C7.up (BX8.trans (P9.mono BX8.size))) _ _)
               rw [hm7]
               clear V9 V10 R7 hm7 P9))
          all_goals
            go_wp2_with fail
            refine (plus_any qa5 (some ⟨x9.heap.size, 0, none⟩) kk 1 qc5 1 (ds5.take kk) [1] _ (HC10.out.up ((Below.refl _ _).alloc (Nat.le_refl _) _)) HN10.out can6.1 (fun d hd => by simp at hd; omega) (by omega) (by omega)).mono ?_
            rintro e x11 ⟨v11, ds11, n11, rfl, O11, D11, V11, N11, P11⟩
            obtain ⟨qa7, qc7, rfl, C11, nil7, cap7, _⟩ := own_slice O11
            have G11 := (HV10.out.up ((Below.refl _ _).alloc (Nat.le_refl _) _)).up P11
            have B11 := (HB10.out.alloc HB10.out.size _).trans (P11.mono (Nat.le_trans HB10.out.size (by simp)))
            have V12 : val ds11 = 2 * Q + 1 := by rw [V11, V6, V5']; simp [val]
            clear O11 V11 P11
            have HG11 := Lib.hid G11
            clear G11
            go_wp2_with fail
            go_roundw
            case rel => exact ⟨j, qa7, n11, qc7, ds11, a7, l7, k7, m7, by go_num, by omega, rfl, ⟨C11, by omega, D11, nil7, cap7, by rw [V12, HT1.out]⟩, by rw [HT2.out]; exact HG11.out, B11⟩
            case measure => first | (simp [RowKit.intOf]; done) | (simp [RowKit.intOf]; omega)
      · go_wp2_with fail
        go_region_law (first
          | (go_simp; go_at_call 14; refine (of_any 1 (by omega) _).mono ?_; rintro e x3 ⟨u3, rfl, T3, P3⟩
             have BX3 := Below.trans (by first | exact (Below.refl _ ((x2.setCell ⟨w.heap.size + 1 + 1 + 1, 0, none⟩ (.slice a5 l5 k5)).setCell ⟨w.heap.size + 1 + 1 + 1, 1, none⟩ (.bool m5))).drew | exact below_drewN (Below.refl _ ((x2.setCell ⟨w.heap.size + 1 + 1 + 1, 0, none⟩ (.slice a5 l5 k5)).setCell ⟨w.heap.size + 1 + 1 + 1, 1, none⟩ (.bool m5))) _) P3
             have V3 := HT2.out.up BX3
             have z0 := V3.v3.c0
             have z1 := V3.v3.c1
             have HV3 := Lib.hid V3
             have T3' := Lib.hid T3
             clear V3 T3 P3)
          | (go_simp; go_at_call 27; refine (addN_any (.agg #[.slice a5 l5 k5, .bool m5]) u3 ((R : Int) * 2) 1 _ HV3.out.v3.num T3'.out (HP.out _ (by have := HRC.out; have := HcP.out; omega)) (HP.out _ (by have := HcP.out; omega))).mono ?_; rintro e x4 ⟨u4, rfl, T4, P4⟩
             obtain ⟨a6, l6, k6, d6, rfl, R6⟩ := T4
             obtain ⟨m6, hm6⟩ : ∃ m, decide ((R : Int) * 2 + 1 < 0) = m := ⟨_, rfl⟩
             have V4 := (HV3.out.up P4)
             have z0' := V4.v3.c0
             have z1' := V4.v3.c1
             have z2' := V4.v3.f0
             have z3' := V4.v3.f1
             have T5 : NumAt x4 (.agg #[.slice a6 l6 k6, .bool m6]) ((R : Int) * 2 + 1) := by rw [← hm6]; exact ⟨a6, l6, k6, d6, rfl, R6⟩
             have V5 := V4.put T5
             have er : (R : Int) * 2 + 1 = (r6 : Int) := by omega
             rw [er] at V5
             clear er T5
             have HV5 := Lib.hid V5
             have HB5 : Hid (Below w.heap.size w ((x4.setCell ⟨w.heap.size + 1 + 1 + 1, 0, none⟩ (.slice a6 l6 k6)).setCell ⟨w.heap.size + 1 + 1 + 1, 1, none⟩ (.bool m6))) :=
               Lib.hid (((HB3.out.trans ((BX3.trans (P4.mono BX3.size)).mono HB3.out.size)).setCell (by simp; omega) _).setCell (by simp; omega) _)
             have HQ5 : Hid (Cells ((x4.setCell ⟨w.heap.size + 1 + 1 + 1, 0, none⟩ (.slice a6 l6 k6)).setCell ⟨w.heap.size + 1 + 1 + 1, 1, none⟩ (.bool m6)) qa ql (qs.map d64)) := Lib.hid (V4.keep (CQ.out _ (BX3.trans (P4.mono BX3.size))) _ _)
             rw [hm6]
             clear V4 V5 R6 hm6 P4))
        all_goals
          go_wp2_with fail
          refine (plus_any qa qa ql ql qc qc qs qs _ HQ5.out HQ5.out HQ.out.2.2.1 HQ.out.2.2.1 (by have := HQ.out.2.1; omega) (by have := HQ.out.2.1; omega)).mono ?_
          rintro e x5 ⟨v5, ds5, n5, rfl, O5, D5, V5, N5, P5⟩
          have G6 := HV5.out.up P5
          have B5 := HB5.out.trans (P5.mono HB5.out.size)
          clear P5
          obtain ⟨qa5, qc5, rfl, C5, nil5, cap5, _⟩ := own_slice O5
          have V5' : val ds5 = 2 * Q := by rw [V5]; have := HQ.out.2.2.2.2.2; omega
          have n5b : n5 ≤ 101 := by have := HQ.out.2.1; omega
          have l5b : ds5.length = n5 := by have := C5.1; rwa [List.length_map] at this
          clear O5 V5 N5
          go_wp2_with fail
          refine (norm_any qa5 n5 qc5 ds5 false _ C5 D5 (by omega) cap5).mono ?_
          rintro e x6 ⟨kk, hkk, rfl, can6, V6, P6⟩
          have G7 := G6.up P6
          have y0 := G7.v3.c0
          have y1 := G7.v3.c1
          have y2 := G7.v2.c0
          have y3 := G7.v2.c1
          have C6 := (C5.up P6).take (k := kk) (by omega)
          have B6 := B5.trans (P6.mono B5.size)
          have kk60 : kk ≤ 60 := by
            have e1 : (ds5.take kk).length = kk := by rw [List.length_take]; omega
            rw [← e1]
            refine canon_len can6 ?_
            rw [V6, V5']
            exact hP' _ (HP.out ((2 * Q : Nat) : Int) (by have := HQN.out; have := HnP.out; omega))
          have hkc : kk ≤ qc5 := by omega
          clear C5 G6 P6 B5 D5
          have HG7 := Lib.hid G7
          clear G7
          go_wp2_with fail
          refine (cmp_any (.agg #[.slice a6 l6 k6, .bool m6]) (.agg #[.slice a2 l2 k2, .bool m2]) r6 C _ HG7.out.v3.num HG7.out.v2.num (HP.out _ (by have := HRC.out; have := HcP.out; omega)) (HP.out _ (by have := HcP.out; omega)) (HP.out _ (by have := HRC.out; have := HcP.out; omega))).mono ?_
          rintro e x7 ⟨rfl, P7⟩
          have G8 := HG7.out.up P7
          have C7 := C6.up P7
          have B7 := B6.trans (P7.mono B6.size)
          have y4 := G8.v3.c0
          have y5 := G8.v3.c1
          have y6 := G8.v2.c0
          have y7 := G8.v2.c1
          clear C6 B6 P7
          have HG8 := Lib.hid G8
          clear G8
          by_cases hlt : r6 < C
          · rw [cmp_lt (by omega)]
            obtain ⟨t1, t2⟩ := S1.out hlt
            have HT1 := Lib.hid t1
            have HT2 := Lib.hid t2
            clear t1 t2 hlt
            go_wp2_with fail
            go_roundw
            case rel => exact ⟨j, qa5, kk, qc5, ds5.take kk, a6, l6, k6, m6, by go_num, by omega, rfl, ⟨C7, by omega, can6.1, nil5, by omega, by rw [V6, V5', HT1.out]⟩, by rw [HT2.out]; exact HG8.out, B7⟩
            case measure => first | (simp [RowKit.intOf]; done) | (simp [RowKit.intOf]; omega)
          · obtain ⟨sg, hsg⟩ : ∃ sg, cmpI (r6 : Int) (C : Int) = sg := ⟨_, rfl⟩
            have hs0 : 0 ≤ sg := by rw [← hsg]; exact cmp_ge (by omega)
            rw [hsg]
            obtain ⟨t1, t2⟩ := S2.out hlt
            have HT1 := Lib.hid t1
            have HT2 := Lib.hid t2
            have HLT := Lib.hid hlt
            clear t1 t2 hlt hsg
            go_wp2_with fail
            go_region_law (first
              | (go_simp; go_at_call 25; refine (neg_any (.agg #[.slice a2 l2 k2, .bool m2]) C _ (HG8.out.up (by first | exact (Below.refl _ _).drew | exact below_drewN (Below.refl _ _) _)).v2.num (HP.out _ (by have := HcP.out; omega))).mono ?_; rintro e x8 ⟨u8, rfl, T8, P8⟩
                 have BX8 : Below x7.heap.size x7 x8 := Below.trans (by first | exact (Below.refl _ _).drew | exact below_drewN (Below.refl _ _) _) P8
                 have V8 := HG8.out.up BX8
                 have z0 := V8.v3.c0
                 have z1 := V8.v3.c1
                 have HV8 := Lib.hid V8
                 have T8' := Lib.hid T8
                 clear V8 T8 P8)
              | (go_simp; go_at_call 27; refine (addN_any (.agg #[.slice a6 l6 k6, .bool m6]) u8 r6 (-(C : Int)) _ HV8.out.v3.num T8'.out (HP.out _ (by have := HRC.out; have := HcP.out; omega)) (HP.out _ (by have := HcP.out; omega))).mono ?_; rintro e x9 ⟨u9, rfl, T9, P9⟩
                 obtain ⟨a7, l7, k7, d7, rfl, R7⟩ := T9
                 obtain ⟨m7, hm7⟩ : ∃ m, decide ((r6 : Int) + -(C : Int) < 0) = m := ⟨_, rfl⟩
                 have V9 := (HV8.out.up P9)
                 have z0' := V9.v3.c0
                 have z1' := V9.v3.c1
                 have z2' := V9.v3.f0
                 have z3' := V9.v3.f1
                 have T10 : NumAt x9 (.agg #[.slice a7 l7 k7, .bool m7]) ((r6 : Int) + -(C : Int)) := by rw [← hm7]; exact ⟨a7, l7, k7, d7, rfl, R7⟩
                 have V10 := V9.put T10
                 have er : (r6 : Int) + -(C : Int) = ((r6 - C : Nat) : Int) := by have := HLT.out; omega
                 rw [er] at V10
                 clear er T10
                 have HV10 := Lib.hid V10
                 have HB10 : Hid (Below w.heap.size w ((x9.setCell ⟨w.heap.size + 1 + 1 + 1, 0, none⟩ (.slice a7 l7 k7)).setCell ⟨w.heap.size + 1 + 1 + 1, 1, none⟩ (.bool m7))) :=
                   Lib.hid (((B7.trans ((BX8.trans (P9.mono BX8.size)).mono B7.size)).setCell (by simp; omega) _).setCell (by simp; omega) _)
                 have HN10 : Hid (Cells (((x9.setCell ⟨w.heap.size + 1 + 1 + 1, 0, none⟩ (.slice a7 l7 k7)).setCell ⟨w.heap.size + 1 + 1 + 1, 1, none⟩ (.bool m7)).alloc (Obj.cells #[.int .u64 1] 53)) (some ⟨x9.heap.size, 0, none⟩) 1 ([1].map d64)) := Lib.hid (one_cell _ (by simp))
                 have HC10 : Hid (Cells ((x9.setCell ⟨w.heap.size + 1 + 1 + 1, 0, none⟩ (.slice a7 l7 k7)).setCell ⟨w.heap.size + 1 + 1 + 1, 1, none⟩ (.bool m7)) qa5 kk ((ds5.take kk).map d64)) := Lib.hid (V9.keep (C7.up (BX8.trans (P9.mono BX8.size))) _ _)
                 rw [hm7]
                 clear V9 V10 R7 hm7 P9))
            all_goals
              go_wp2_with fail
              refine (plus_any qa5 (some ⟨x9.heap.size, 0, none⟩) kk 1 qc5 1 (ds5.take kk) [1] _ (HC10.out.up ((Below.refl _ _).alloc (Nat.le_refl _) _)) HN10.out can6.1 (fun d hd => by simp at hd; omega) (by omega) (by omega)).mono ?_
              rintro e x11 ⟨v11, ds11, n11, rfl, O11, D11, V11, N11, P11⟩
              obtain ⟨qa7, qc7, rfl, C11, nil7, cap7, _⟩ := own_slice O11
              have G11 := (HV10.out.up ((Below.refl _ _).alloc (Nat.le_refl _) _)).up P11
              have B11 := (HB10.out.alloc HB10.out.size _).trans (P11.mono (Nat.le_trans HB10.out.size (by simp)))
              have V12 : val ds11 = 2 * Q + 1 := by rw [V11, V6, V5']; simp [val]
              clear O11 V11 P11
              have HG11 := Lib.hid G11
              clear G11
              go_wp2_with fail
              go_roundw
              case rel => exact ⟨j, qa7, n11, qc7, ds11, a7, l7, k7, m7, by go_num, by omega, rfl, ⟨C11, by omega, D11, nil7, cap7, by rw [V12, HT1.out]⟩, by rw [HT2.out]; exact HG11.out, B11⟩
              case measure => first | (simp [RowKit.intOf]; done) | (simp [RowKit.intOf]; omega)
end Go.Proofs.YtpddnmkoiplmkaaDoor
