/- The walk of SplitWhole: shares sum to the total. -/
import Derived.Test.YtkmoibikempieaaSplitMay
import Derived.Test.YtkmoibikempieaaSplitSum
import Derived.Test.YtkmoibikempieaaRef8
import Derived.Deep.CutRange
namespace Go.Proofs.Ytkmoibikempieaa
open Go Go.RowKit
set_option linter.unusedVariables false
attribute [local go_sem] build_num run_field_D

set_option maxHeartbeats 1000000 in
theorem whole_long (SH : Hid SharesC) (T : Int) (a : Option Addr) (len cap : Nat) (w : World) (h : 500 < len) (hm : len ≤ 9223372036854775807) :
    Calls Try.prog 5 #[.int .i64 T, .slice a len cap] w fun e w' => e = .returned (.bool true) ∧ Below w.heap.size w w' := by
  have c : (500 : Int) < (len : Int) := by omega
  go_enter Try.func5, Try.ntmps5
  go_wp2_with fail
  refine (up03_any SH _).mono ?_
  rintro e w1 ⟨rfl, hb⟩
  go_wp2_with fail
  go_ret
  exact ⟨rfl, hb⟩

theorem small_prod {x y : Int} (hx : 0 ≤ x) (hx' : x ≤ 10000000000000) (hy : 0 ≤ y) (hy' : y ≤ 4800000000000000) : 0 ≤ x * y ∧ x * y ≤ 48000000000000000000000000000 := by
  refine ⟨Int.mul_nonneg hx hy, ?_⟩
  have h1 : x * y ≤ x * 4800000000000000 := Int.mul_le_mul_of_nonneg_left hy' hx
  omega

theorem small_big {n : Int} (h : -100000000000000000000000000000 ≤ n ∧ n ≤ 100000000000000000000000000000) : Small n := by
  unfold Small
  have : (100000000000000000000000000000 : Nat) < 65536 ^ 60 := by decide +kernel
  omega

theorem num_abs {w : World} {a : Option Addr} {l k : Nat} {m : Bool} {n : Int} (h : NumAt w (.agg #[.slice a l k, .bool m]) n) : NumAt w (.agg #[.slice a l k, .bool false]) (n.natAbs : Int) := by
  obtain ⟨a2, l2, c2, ds, he, h1, h2, h3, h4, h5⟩ := h
  simp only [Value.agg.injEq, Array.mk.injEq, List.cons.injEq, Value.slice.injEq, Value.bool.injEq, and_true] at he
  obtain ⟨⟨rfl, rfl, rfl⟩, rfl⟩ := he
  have e : decide ((n.natAbs : Int) < 0) = false := by simp
  refine ⟨a, l, k, ds, by rw [e], h1, h2, h3, h4, by rw [h5]; simp⟩

/-- its sign taken away -/
theorem NumVar.abs {w : World} {N : Nat} {n : Int} {a : Option Addr} {len cap : Nat} {m : Bool} (h : NumVar w N n a len cap m) :
    NumVar (w.setCell ⟨N, 1, none⟩ (.bool false)) N (n.natAbs : Int) a len cap false := by
  have hblk := h.far h.num
  have h0 := h.c0
  have h1 := h.c1
  have hf0 := h.f0
  have hf1 := h.f1
  obtain ⟨a2, l2, c2, ds, he, hc, hrest⟩ := num_abs h.num
  simp only [Value.agg.injEq, Array.mk.injEq, List.cons.injEq, Value.slice.injEq, Value.bool.injEq, and_true] at he
  obtain ⟨⟨rfl, rfl, rfl⟩, he⟩ := he
  refine ⟨?_, ?_, ?_, ?_, ⟨a, len, cap, ds, by rw [← he], hc.set _ _ hblk, hrest⟩, fun o ho => ?_⟩
  · rw [World.cell?_setCell_other]
    · exact h0
    · intro e; cases e
  · exact World.cell?_setCell_same _ _ _ h1
  · rw [World.frozen?_setCell]; exact hf0
  · rw [World.frozen?_setCell]; exact hf1
  · rw [World.cell?_setCell_other]
    · exact h.sz o ho
    · intro e; injection e with _ e2; omega

theorem near_cmp {x A : Int} (h : -A < x ∧ x < A) : cmpI (x.natAbs : Int) A = -1 := by
  unfold cmpI; rw [if_neg (by omega), if_pos (by omega)]

set_option maxRecDepth 100000 in
set_option maxHeartbeats 8000000 in
theorem whole_walk (SH : Hid SharesC) (T : Int) (a : Option Addr) (len cap : Nat) (zs : List Int) (w : World) (hT : -9223372036854775808 ≤ T ∧ T ≤ 9223372036854775807) (h : Elems w a len zs) (hl : len ≤ 500) (hlc : len ≤ cap) :
    Calls Try.prog 5 #[.int .i64 T, .slice a len cap] w fun e w' => e = .returned (.bool true) ∧ Below w.heap.size w w' := by
  have c : ¬ (500 : Int) < (len : Int) := by omega
  have HE := Lib.hid h
  clear h
  go_enter Try.func5, Try.ntmps5
  go_wp2_with fail
  refine (up03_any SH _).mono ?_
  rintro e w1 ⟨rfl, hb1⟩
  have HB1 := Lib.hid hb1
  clear hb1
  go_wp2_with fail
  refine (SH.out T a len cap zs _ hT.1 hT.2 (HE.out.up HB1.out) hlc (by omega)).mono ?_
  rintro e w2 ⟨hb2, ⟨hn, rfl⟩ | ⟨hok, b, cap2, rfl, hown⟩⟩
  · have HB2 := Lib.hid (HB1.out.trans (hb2.mono HB1.out.size))
    have HE2 := Lib.hid ((HE.out.up HB1.out).up hb2)
    have HN : Hid (false = true ↔ mayS T zs) := ⟨(fun h => by cases h), fun h => absurd h hn⟩
    clear hb2 hn
    go_wp2_with fail
    refine (refMay3_any T a len cap zs false _ HE2.out (by omega) HN.out).mono ?_
    rintro e w3 ⟨rfl, hw⟩
    subst w3
    go_wp2_with fail
    go_ret
    exact ⟨rfl, HB2.out⟩
  · have HB2 := Lib.hid (HB1.out.trans (hb2.mono HB1.out.size))
    have hz : zs.length = len := HE.out.1
    have HE2 := Lib.hid ((HE.out.up HB1.out).up hb2)
    have HN := Lib.hid hok
    have hsum := mayS_sum hok
    have hT0 := hok.1
    have hn0 := hok.2.1
    rw [hz] at hn0 hsum
    have CZ : Hid (∀ j, j < len → 0 ≤ wgt zs j ∧ wgt zs j ≤ 10000000000000 ∧ ∀ W, Below w2.heap.size w2 W → ∃ x o, a = some ⟨x, o, none⟩ ∧ W.cell? ⟨x, o + j, none⟩ = some (.int .i64 (wgt zs j))) := fun j hj => by
      refine ⟨(mayS_wgt hok j).1, (mayS_wgt hok j).2, fun W hW => ?_⟩
      rcases (HE2.out.up hW).2.2 with h0 | ⟨x, o, he, hc⟩
      · omega
      · exact ⟨x, o, he, hc j hj⟩
    have CS : Hid (∀ j, j < len → 0 ≤ shareS T (wgt zs) len j ∧ shareS T (wgt zs) len j ≤ T ∧ (wgt zs j = 0 → shareS T (wgt zs) len j = 0) ∧ -(sumF (wgt zs) len) < T * wgt zs j - shareS T (wgt zs) len j * sumF (wgt zs) len ∧
        T * wgt zs j - shareS T (wgt zs) len j * sumF (wgt zs) len < sumF (wgt zs) len ∧ ∀ W, Below w2.heap.size w2 W → W.cell? ⟨b, j, none⟩ = some (.int .i64 (shareS T (wgt zs) len j))) := fun j hj => by
      have h1 := row_cell hown (j := j) (by omega)
      rw [sharesL_get T zs j (by omega), hz] at h1
      have h2 := share_le (T := T) (f := wgt zs) (n := len) (i := j) hT0.1 (fun j _ => (mayS_wgt hok j).1) hsum.1 hj
      have h3 := share_near (T := T) (f := wgt zs) (n := len) (i := j) hsum.1 hj
      exact ⟨h2.1, h2.2, fun h0 => share_none hsum.1 hj h0, h3.1, h3.2, fun W hW => old_cell hW h1 (cell_lt h1)⟩
    have SUM := Lib.hid (share_sum (T := T) (f := wgt zs) (n := len) hsum.1 (by omega))
    have PZ : Hid (∀ k, k ≤ len → 0 ≤ sumF (wgt zs) k ∧ sumF (wgt zs) k ≤ sumF (wgt zs) len) := fun k hk => sumF_part (fun j hj => (CZ.out j hj).1) hk
    have PS : Hid (∀ k, k ≤ len → 0 ≤ sumF (shareS T (wgt zs) len) k ∧ sumF (shareS T (wgt zs) len) k ≤ sumF (shareS T (wgt zs) len) len) := fun k hk => sumF_part (fun j hj => (CS.out j hj).1) hk
    obtain ⟨A, hA⟩ : ∃ A, sumF (wgt zs) len = A := ⟨_, rfl⟩
    rw [hA] at CS PZ hsum
    obtain ⟨A0, A1⟩ := hsum
    obtain ⟨T0, T1⟩ := hT0
    have HA := Lib.hid hA
    clear hown hb2 hok hA hn0
    rw [hz]
    clear hz
    have t0 : ((len : Int) != (len : Int)) = false := by simp
    go_wp2_with fail
    refine (refMay3_any T a len cap zs true _ HE2.out (by omega) ⟨fun _ => HN.out, fun _ => rfl⟩).mono ?_
    rintro e w3 ⟨rfl, hw⟩
    subst w3
    go_wp2_with fail
    go_loop [9, 10, 11] (fun u s i => ∃ k : Nat, k ≤ len ∧ i = .int .i64 k ∧ u = .int .i64 (sumF (wgt zs) k) ∧ s = .int .i64 (sumF (shareS T (wgt zs) len) k)) (fun _ _ i => len - (RowKit.intOf i).toNat)
    case atStart => exact ⟨0, Nat.zero_le _, rfl, rfl, rfl⟩
    case round =>
      obtain ⟨k, hk, rfl, rfl, rfl⟩ := hrel
      obtain ⟨p0, p1⟩ := PZ.out k hk
      obtain ⟨s0, s1⟩ := PS.out k hk
      rw [SUM.out] at s1
      by_cases hlt : k < len
      · have k0 : (0 : Int) ≤ (k : Int) := by omega
        have k1 : (k : Int) < (len : Int) := by omega
        obtain ⟨q0, q1⟩ := PZ.out (k + 1) hlt
        obtain ⟨r0, r1⟩ := PS.out (k + 1) hlt
        rw [SUM.out] at r1
        have e1 : sumF (wgt zs) (k + 1) = sumF (wgt zs) k + wgt zs k := rfl
        have e2 : sumF (shareS T (wgt zs) len) (k + 1) = sumF (shareS T (wgt zs) len) k + shareS T (wgt zs) len k := rfl
        obtain ⟨z0, z1, hcz⟩ := CZ.out k hlt
        obtain ⟨y0, y1, y2, -, -, hcs⟩ := CS.out k hlt
        obtain ⟨x, o, rfl, c1⟩ := hcz _ (Below.refl _ _)
        have c2 := hcs _ (Below.refl _ _)
        rw [e1] at q0 q1
        rw [e2] at r0 r1
        have E1 := Lib.hid e1
        have E2 := Lib.hid e2
        clear hcz hcs e1 e2
        generalize wgt zs k = z at *
        generalize shareS T (wgt zs) len k = y at *
        generalize sumF (wgt zs) k = U at *
        generalize sumF (shareS T (wgt zs) len) k = V at *
        by_cases hz0 : z = 0
        · have hy0 := y2 hz0
          subst hz0 hy0
          clear y2
          go_wp2_with fail
          go_round
          case rel => exact ⟨k + 1, by omega, by go_num, by rw [E1.out]; go_num, by rw [E2.out]; go_num⟩
          case measure => simp [RowKit.intOf]; omega
        · have hz1 : (z == 0) = false := by simpa using hz0
          clear y2 hz0
          go_wp2_with fail
          go_round
          case rel => exact ⟨k + 1, by omega, by go_num, by rw [E1.out], by rw [E2.out]⟩
          case measure => simp [RowKit.intOf]; omega
      · obtain rfl : len = k := by omega
        rw [HA.out, SUM.out]
        clear p0 p1 s0 s1
        go_wp2_with fail
        go_loopw [12] (fun i wr => ∃ k : Nat, k ≤ len ∧ i = .int .i64 k ∧ Below w2.heap.size w2 wr) (fun i _ => len - (RowKit.intOf i).toNat)
        case atStart => exact ⟨0, Nat.zero_le _, rfl, Below.refl _ _⟩
        case round =>
          obtain ⟨k, hk, rfl, hbel⟩ := hrel
          by_cases hlt : k < len
          · have k0 : (0 : Int) ≤ (k : Int) := by omega
            have k1 : (k : Int) < (len : Int) := by omega
            obtain ⟨z0, z1, hcz⟩ := CZ.out k hlt
            obtain ⟨y0, y1, -, y3, y4, hcs⟩ := CS.out k hlt
            obtain ⟨x, o, rfl, -⟩ := hcz _ (Below.refl _ _)
            have CC : Hid (∀ W, Below wr.heap.size wr W → W.cell? ⟨x, o + k, none⟩ = some (.int .i64 (wgt zs k)) ∧ W.cell? ⟨b, k, none⟩ = some (.int .i64 (shareS T (wgt zs) len k))) := fun W hW => by
              have hb := hbel.trans (hW.mono hbel.size)
              obtain ⟨x', o', he, hc⟩ := hcz W hb
              simp only [Option.some.injEq, Addr.mk.injEq, and_true] at he
              obtain ⟨rfl, rfl⟩ := he
              exact ⟨hc, hcs W hb⟩
            have HBL := Lib.hid hbel
            clear hcz hcs hbel
            generalize wgt zs k = z at *
            generalize shareS T (wgt zs) len k = y at *
            obtain ⟨m0, m1⟩ := small_prod T0 T1 z0 (by omega)
            obtain ⟨m2, m3⟩ := small_prod y0 (by omega) (Int.le_of_lt A0) A1
            have SM : Hid (Small T ∧ Small z ∧ Small y ∧ Small A ∧ Small (T * z) ∧ Small (y * A) ∧ Small (-(y * A)) ∧ Small (T * z + -(y * A)) ∧ Small (-(T * z + -(y * A))) ∧ Small (T * z + -(y * A) + -A) ∧ Small (-(T * z + -(y * A)) + -A)) :=
              ⟨small_big (by omega), small_big (by omega), small_big (by omega), small_big (by omega), small_big (by omega), small_big (by omega), small_big (by omega), small_big (by omega), small_big (by omega), small_big (by omega), small_big (by omega)⟩
            have NEAR : Hid (-A < T * z + -(y * A) ∧ T * z + -(y * A) < A) := Lib.hid (by omega)
            clear m0 m1 m2 m3 y3 y4
            obtain ⟨wo, hwo⟩ : ∃ wo : World, wo = wr := ⟨_, rfl⟩
            go_upto_region 22 with fail
            go_cut [13] from 96 to 103 (fun t13 wx => ∃ (N : Nat) (an : Option Addr) (ln kn : Nat) (mn : Bool), t13 = .pointer (some ⟨N, 0, none⟩) ∧ NumVar wx N (T * z) an ln kn mn ∧ Below wr.heap.size wr wx ∧ wr.heap.size ≤ N)
            case first =>
              have i0 := (CC.out _ (Below.refl _ _)).1
              have i1 := fun o1 => hold_alloc o1 i0
              go_region_law (first
                | (go_simp; go_at_call 16; (with_reducible refine (of_any T hT _).mono ?_); rintro e x1 ⟨u1, rfl, M1, P1⟩
                   have B1 : Below wr.heap.size wr x1 := Below.trans (by go_grown) (P1.mono (by first | omega | (simp; done) | (simp; omega)))
                   have s1 := B1.size
                   have g1 := P1.size
                   try simp at g1
                   have c1 := (CC.out _ B1).1
                   have c1' := fun o1 => hold_alloc o1 c1
                   have M1' := Lib.hid M1
                   clear M1)
                | (go_simp; go_at_call 16; (with_reducible refine (of_any z (by omega) _).mono ?_); rintro e x2 ⟨u2, rfl, M2, P2⟩
                   have B2 : Below wr.heap.size wr x2 := Below.trans (by go_grown) (P2.mono (by first | omega | (simp; done) | (simp; omega)))
                   have s2 := B2.size
                   have g2 := P2.size
                   try simp at g2
                   have M12 := Lib.hid (M1'.out.up (Below.trans (by go_grown) (P2.mono (by first | omega | (simp; done) | (simp; omega)))))
                   have M2' := Lib.hid M2
                   clear M2)
                | (go_simp; go_at_call 15; refine (mulN_any u1 u2 T z _ (M12.out.up (by go_grown)) (M2'.out.up (by go_grown)) SM.out.1 SM.out.2.1).mono ?_; rintro e x3 ⟨u3, rfl, M3, P3⟩
                   obtain ⟨a8, l8, k8, d8, rfl, R8⟩ := M3
                   obtain ⟨m8, hm8⟩ : ∃ m, decide (T * z < 0) = m := ⟨_, rfl⟩
                   have B3 : Below wr.heap.size wr x3 := Below.trans (by go_grown) (P3.mono (by first | omega | (simp; done) | (simp; omega)))
                   have T8' : NumAt x3 (.agg #[.slice a8 l8 k8, .bool m8]) (T * z) := by rw [← hm8]; exact ⟨a8, l8, k8, d8, rfl, R8⟩
                   have HT8 := Lib.hid T8'
                   try (have NZ := (((NumVar.new 36 (zero_num wr)).up ((Below.refl _ _).drew.trans P1)).up P2).up P3
                        have NN : wr.heap.size ≤ wr.heap.size := Nat.le_refl _
                        have q0 := NZ.c0
                        have q1 := NZ.c1
                        have q2 := NZ.f0
                        have q3 := NZ.f1
                        have HNZ := Lib.hid NZ
                        clear NZ)
                   try (have NZ := ((NumVar.new 36 (zero_num x1)).up P2).up P3
                        have NN : wr.heap.size ≤ x1.heap.size := s1
                        have q0 := NZ.c0
                        have q1 := NZ.c1
                        have q2 := NZ.f0
                        have q3 := NZ.f1
                        have HNZ := Lib.hid NZ
                        clear NZ)
                   try (have NZ := (NumVar.new 36 (zero_num x2)).up P3
                        have NN : wr.heap.size ≤ x2.heap.size := s2
                        have q0 := NZ.c0
                        have q1 := NZ.c1
                        have q2 := NZ.f0
                        have q3 := NZ.f1
                        have HNZ := Lib.hid NZ
                        clear NZ)
                   rw [hm8]
                   clear R8 hm8 T8'))
              all_goals
                go_wp2_with fail
                go_meet
              all_goals first
                | exact ⟨_, _, _, _, _, rfl, NumVar.new _ HT8.out, B3.alloc B3.size _, B3.size⟩
                | exact ⟨_, _, _, _, _, rfl, HNZ.out.put HT8.out, (B3.setCell NN _).setCell NN _, NN⟩
            case rest =>
              obtain ⟨N1, a1, l1, k1', m1, rfl, V1, BC, n1⟩ := hcut
              have g0 := V1.c0
              have g1 := V1.c1
              have HV1 := Lib.hid V1
              have HBC := Lib.hid BC
              clear V1 BC
              go_upto_region 23 with fail
              go_cut [14] from 104 to 114 (fun t14 wx => ∃ (N : Nat) (an : Option Addr) (ln kn : Nat) (mn : Bool), t14 = .pointer (some ⟨N, 0, none⟩) ∧ NumVar wx N (T * z + -(y * A)) an ln kn mn ∧ Below wr.heap.size wr wx ∧ wr.heap.size ≤ N)
              case first =>
                have i0 := (CC.out _ HBC.out).2
                have i1 := fun o1 => hold_alloc o1 i0
                have i2 := fun o1 => hold_alloc o1 g0
                have i3 := fun o1 => hold_alloc o1 g1
                go_region_law (first
                  | (go_simp; go_at_call 16; (with_reducible refine (of_any y (by omega) _).mono ?_); rintro e x1 ⟨u1, rfl, M1, P1⟩
                     have B1 : Below wc.heap.size wc x1 := Below.trans (by go_grown) (P1.mono (by first | omega | (simp; done) | (simp; omega)))
                     have s1 := B1.size
                     have g1 := P1.size
                     try simp at g1
                     have V1 := HV1.out.up B1
                     have v10 := V1.c0
                     have v11 := V1.c1
                     have v12 := fun o1 => hold_alloc o1 v10
                     have v13 := fun o1 => hold_alloc o1 v11
                     have M1' := Lib.hid M1
                     clear M1 V1)
                  | (go_simp; go_at_call 16; (with_reducible refine (of_any A (by omega) _).mono ?_); rintro e x2 ⟨u2, rfl, M2, P2⟩
                     have B2 : Below wc.heap.size wc x2 := Below.trans (by go_grown) (P2.mono (by first | omega | (simp; done) | (simp; omega)))
                     have s2 := B2.size
                     have g2 := P2.size
                     try simp at g2
                     have V2 := HV1.out.up B2
                     have v20 := V2.c0
                     have v21 := V2.c1
                     have v22 := fun o1 => hold_alloc o1 v20
                     have v23 := fun o1 => hold_alloc o1 v21
                     have M12 := Lib.hid (M1'.out.up (Below.trans (by go_grown) (P2.mono (by first | omega | (simp; done) | (simp; omega)))))
                     have M2' := Lib.hid M2
                     clear M2 V2)
                  | (go_simp; go_at_call 15; refine (mulN_any u1 u2 y A _ (M12.out.up (by go_grown)) (M2'.out.up (by go_grown)) SM.out.2.2.1 SM.out.2.2.2.1).mono ?_; rintro e x3 ⟨u3, rfl, M3, P3⟩
                     have B3 : Below wc.heap.size wc x3 := Below.trans (by go_grown) (P3.mono (by first | omega | (simp; done) | (simp; omega)))
                     have s3 := B3.size
                     have g3 := P3.size
                     try simp at g3
                     have V3 := HV1.out.up B3
                     have v30 := V3.c0
                     have v31 := V3.c1
                     have v32 := fun o1 => hold_alloc o1 v30
                     have v33 := fun o1 => hold_alloc o1 v31
                     have M3' := Lib.hid M3
                     clear M3 V3)
                  | (go_simp; go_at_call 18; refine (neg_any u3 (y * A) _ (M3'.out.up (by go_grown)) SM.out.2.2.2.2.2.1).mono ?_; rintro e x4 ⟨u4, rfl, M4, P4⟩
                     have B4 : Below wc.heap.size wc x4 := Below.trans (by go_grown) (P4.mono (by first | omega | (simp; done) | (simp; omega)))
                     have s4 := B4.size
                     have g4 := P4.size
                     try simp at g4
                     have V4 := HV1.out.up B4
                     have v40 := V4.c0
                     have v41 := V4.c1
                     have v42 := fun o1 => hold_alloc o1 v40
                     have v43 := fun o1 => hold_alloc o1 v41
                     have M4' := Lib.hid M4
                     clear M4 V4)
                  | (go_simp; go_at_call 17; refine (addN_any (.agg #[.slice a1 l1 k1', .bool m1]) u4 (T * z) (-(y * A)) _ (HV1.out.up (by go_grown)).num (M4'.out.up (by go_grown)) SM.out.2.2.2.2.1 SM.out.2.2.2.2.2.2.1).mono ?_; rintro e x5 ⟨u5, rfl, M5, P5⟩
                     obtain ⟨a8, l8, k8, d8, rfl, R8⟩ := M5
                     obtain ⟨m8, hm8⟩ : ∃ m, decide (T * z + -(y * A) < 0) = m := ⟨_, rfl⟩
                     have B5 : Below wc.heap.size wc x5 := Below.trans (by go_grown) (P5.mono (by first | omega | (simp; done) | (simp; omega)))
                     have T8' : NumAt x5 (.agg #[.slice a8 l8 k8, .bool m8]) (T * z + -(y * A)) := by rw [← hm8]; exact ⟨a8, l8, k8, d8, rfl, R8⟩
                     have HT8 := Lib.hid T8'
                     try (have NZ := (((((NumVar.new 36 (zero_num wc)).up ((Below.refl _ _).drew.trans P1)).up P2).up P3).up P4).up P5
                          have NN : wr.heap.size ≤ wc.heap.size := HBC.out.size
                          have q0 := NZ.c0
                          have q1 := NZ.c1
                          have q2 := NZ.f0
                          have q3 := NZ.f1
                          have HNZ := Lib.hid NZ
                          clear NZ)
                     try (have NZ := ((((NumVar.new 36 (zero_num x1)).up P2).up P3).up P4).up P5
                          have NN : wr.heap.size ≤ x1.heap.size := Nat.le_trans HBC.out.size s1
                          have q0 := NZ.c0
                          have q1 := NZ.c1
                          have q2 := NZ.f0
                          have q3 := NZ.f1
                          have HNZ := Lib.hid NZ
                          clear NZ)
                     try (have NZ := (((NumVar.new 36 (zero_num x2)).up P3).up P4).up P5
                          have NN : wr.heap.size ≤ x2.heap.size := Nat.le_trans HBC.out.size s2
                          have q0 := NZ.c0
                          have q1 := NZ.c1
                          have q2 := NZ.f0
                          have q3 := NZ.f1
                          have HNZ := Lib.hid NZ
                          clear NZ)
                     try (have NZ := ((NumVar.new 36 (zero_num x3)).up P4).up P5
                          have NN : wr.heap.size ≤ x3.heap.size := Nat.le_trans HBC.out.size s3
                          have q0 := NZ.c0
                          have q1 := NZ.c1
                          have q2 := NZ.f0
                          have q3 := NZ.f1
                          have HNZ := Lib.hid NZ
                          clear NZ)
                     try (have NZ := (NumVar.new 36 (zero_num x4)).up P5
                          have NN : wr.heap.size ≤ x4.heap.size := Nat.le_trans HBC.out.size s4
                          have q0 := NZ.c0
                          have q1 := NZ.c1
                          have q2 := NZ.f0
                          have q3 := NZ.f1
                          have HNZ := Lib.hid NZ
                          clear NZ)
                     rw [hm8]
                     clear R8 hm8 T8'))
                all_goals
                  go_wp2_with fail
                  go_meet
                all_goals have BZ := HBC.out.trans (B5.mono HBC.out.size)
                all_goals first
                  | exact ⟨_, _, _, _, _, rfl, NumVar.new _ HT8.out, BZ.alloc BZ.size _, BZ.size⟩
                  | exact ⟨_, _, _, _, _, rfl, HNZ.out.put HT8.out, (BZ.setCell NN _).setCell NN _, NN⟩
              case rest =>
                obtain ⟨N2, a2, l2, k2, m2, rfl, V2, BD, n2⟩ := hcut
                have e0 := V2.c0
                have e1 := V2.c1
                have e2 := V2.f1
                have VA := V2.abs
                have BE := BD.setCell n2 (.bool false) (p := ⟨N2, 1, none⟩)
                have f0 := VA.c0
                have f1 := VA.c1
                have HVA := Lib.hid VA
                have HBE := Lib.hid BE
                have HCM := Lib.hid (near_cmp NEAR.out)
                have SMA : Hid (Small ((T * z + -(y * A)).natAbs : Int) ∧ Small (((T * z + -(y * A)).natAbs : Int) + -A)) := by
                  have := NEAR.out
                  exact ⟨small_big (by omega), small_big (by omega)⟩
                clear g0 g1 HV1 HBC V2 BD VA BE
                go_upto_region 25 with fail
                have hw5 : wc.setCell ⟨N2, 1, none⟩ (.bool false) = wc.setCell ⟨N2, 1, none⟩ (.bool false) := rfl
                clear hw5
                go_region_law (first
                  | (go_simp; go_at_call 16; refine (of_any A (by omega) _).mono ?_; rintro e x5 ⟨u5, rfl, T5, P5⟩
                     have B5 := Below.trans (by first | exact (Below.refl _ (wc.setCell ⟨N2, 1, none⟩ (.bool false))).drew | exact below_drewN (Below.refl _ (wc.setCell ⟨N2, 1, none⟩ (.bool false))) _) P5
                     have Q5 := HVA.out.up B5
                     have p0 := Q5.c0
                     have p1 := Q5.c1
                     have Q5' := Lib.hid Q5
                     have T5' := Lib.hid T5
                     clear T5 Q5)
                  | (go_simp; go_at_call 19; refine (cmp_any (.agg #[.slice a2 l2 k2, .bool false]) u5 ((T * z + -(y * A)).natAbs : Int) A _ Q5'.out.num T5'.out SMA.out.1 SM.out.2.2.2.1 SMA.out.2).mono ?_; rintro e x6 ⟨rfl, P6⟩
                     rw [HCM.out]
                     have B6 := HBE.out.trans ((B5.trans (P6.mono B5.size)).mono HBE.out.size)))
                all_goals
                  go_wp2_with fail
                  go_roundw
                  case rel => exact ⟨k + 1, by omega, by go_num, HBL.out.trans (B6.mono HBL.out.size)⟩
                  case measure => simp [RowKit.intOf]; omega
          · have k1 : ¬ (k : Int) < (len : Int) := by omega
            have k2 : (T == T) = true := by simp
            go_wp2_with fail
            go_ret
            exact ⟨rfl, HB2.out.trans (hbel.mono HB2.out.size)⟩

theorem splitWhole_walk (SH : Hid SharesC) (T : Int) (a : Option Addr) (len cap : Nat) (zs : List Int) (w : World) (hT : -9223372036854775808 ≤ T ∧ T ≤ 9223372036854775807) (h : IsRow .i64 w a len cap zs) :
    Calls Try.prog 5 #[.int .i64 T, .slice a len cap] w fun e w' => e = .returned (.bool true) ∧ Below w.heap.size w w' := by
  obtain ⟨h1, h2, h3⟩ := row_elems h
  by_cases hl : 500 < len
  · exact whole_long SH T a len cap w hl (by simp [maxLen] at h3; omega)
  · exact whole_walk SH T a len cap _ w hT h1 (by omega) h2
end Go.Proofs.Ytkmoibikempieaa
