/- A crash. -/
import Derived.Test.YtehfbafocbcfnaaDskWrite
namespace Go.Proofs.Ytehfbafocbcfnaa
open Go Go.RowKit Go.Maps
set_option linter.unusedVariables false

theorem own_keys {w : World} {B n : Nat} {v : Value} {xs : List Nat} {ss : List Int} (hs : ss = xs.map Int.ofNat) (h : w.ownsRow B 3 1 v n (ss.map encZ)) :
    xs.length = n ∧ ∃ a cap, v = .slice a n cap ∧ (0 < n → ∃ g, a = some ⟨g, 0, none⟩ ∧ B ≤ g ∧ ∀ j, j < n → w.cell? ⟨g, j, none⟩ = some (.int .i64 (xs.getD j 0 : Nat))) := by
  subst hs
  have hl : xs.length = n := by have := h.1; simpa using this
  refine ⟨hl, ?_⟩
  rcases h.2 with ⟨rfl, rfl⟩ | ⟨g, cap, cur, rfl, hB, _, hc, _⟩
  · exact ⟨none, 0, rfl, fun h => absurd h (Nat.lt_irrefl _)⟩
  · have hcl := ownsRow_cells h
    refine ⟨_, cap, rfl, fun hn => ⟨g, rfl, hB, fun j hj => ?_⟩⟩
    rcases hcl.2 with h0 | ⟨b, off, e, hcc⟩
    · omega
    · cases e
      have := hcc j hj
      rw [Nat.zero_add] at this
      rw [this]
      simp [List.getD, encZ, show j < xs.length by omega]

theorem cell_only {X : Nat → Prop} {w w' : World} {b o : Nat} {v : Value} (ho : Only X w w') (hx : ¬ X b) (h : w.cell? ⟨b, o, none⟩ = some v) : w'.cell? ⟨b, o, none⟩ = some v := by
  have hb := ho.block b (cell_lt h) hx
  have e : w'.cell? ⟨b, o, none⟩ = w.cell? ⟨b, o, none⟩ := by simp [World.cell?, hb]
  rw [e, h]

theorem held_eq {l r : List Nat} (h : (DataW.held l : DataW (List Nat)) = .held r) : r = l := by cases h; rfl

theorem block_src {W : World} {q κ k : Nat} {l : List Nat} {e : TypeId} (hr : Row q e (l.map b8) W) (hl : l.length = 64) (hk : k = κ) : ∃ ad, (some ⟨q, k, none⟩ : Option Addr) = some ad ∧ ∀ j v, ((l.drop κ).map b8)[j]? = some v → W.cell? (ad.add j) = some v := by
  subst hk
  refine ⟨_, rfl, fun j v hv => ?_⟩
  have hj : j < l.length - k := by
    have := (List.getElem?_eq_some_iff.1 hv).1
    simpa using this
  rw [Addr.add_mid, hr.cell (j := k + j) (by simp; omega)]
  rw [List.getElem?_map, List.getElem?_drop, List.getElem?_eq_getElem (by omega)] at hv
  simp only [Option.map_some, Option.some.injEq] at hv
  rw [← hv]
  simp [List.getD_eq_getElem?_getD, show k + j < l.length by omega]

/-- the state as a crash goes on -/
def cwS (s : Dsk) (picks : List Int) (n i : Nat) : List Nat := cwN s.st s.nw (ksN s.di n) picks i

set_option maxHeartbeats 8000000 in
set_option maxRecDepth 100000 in
theorem crash_any {n g h t : Nat} {s : Dsk} (a : Option Addr) (L c : Nat) (picks : List Int) (w : World) (H : DAt n g h t s w) (hel : Elems w a L picks) (ha : ∀ x, a = some x → L = 0 ∨ ¬ foot g h t x.block) (hL : L ≤ 2000) :
    Calls Try.prog 27 #[.pointer (some ⟨g, 0, none⟩), .slice a L c] w fun e w' => e = .returned (.tuple #[]) ∧ Only (foot g h t) w w' ∧ DAt n g h t (s.crash picks) w' := by
  obtain ⟨c0, c1⟩ := H.cells
  obtain ⟨k, D, hown, hmap⟩ := H.mp
  have hn := H.ok.2.2.2
  have HH := Lib.hid H
  have hsz : Maps.size D ≤ 1024 := by
    have h1 := hmap.size hown Try.underlying3
    have h2 := manyN_le s.di n
    omega
  have HSo := Lib.hid (fun ss hS => hmap.sorted hown Try.underlying3 (ss := ss) hS)
  have HKeys := Lib.hid (keys_any (some t) w)
  have HSorted := Lib.hid (sorted_any t k D RB w hown hsz)
  have HMP := Lib.hid hmap
  have HEL := Lib.hid hel
  have HA := Lib.hid ha
  clear H hown hmap hel ha
  go_enter Try.func27, Try.ntmps27
  go_wp2_with fail
  refine Calls.mono HKeys.out ?_
  rintro e w1 ⟨rfl, rfl⟩
  go_wp2_with fail
  refine Calls.mono HSorted.out ?_
  rintro e w2 ⟨v, ss, rfl, hS, hrow, hb⟩
  obtain ⟨hK, a2, cap2, rfl, hcells⟩ := own_keys (HSo.out ss hS) hrow
  obtain ⟨K, hKd⟩ : ∃ K, ss.length = K := ⟨_, rfl⟩
  rw [hKd] at hK hcells ⊢
  have hbw : Below w.heap.size w w2 := ((Below.refl _ w).alloc (Nat.le_refl _) _).trans (hb.mono (by simp))
  have HB0 := Lib.hid hbw
  have HK := Lib.hid hK
  have HC := Lib.hid hcells
  have HH2 := Lib.hid (HH.out.up hbw)
  clear hS hrow hb hK hKd hcells hbw HKeys HSorted HSo c0 c1
  go_wp2_with fail
  go_loopw [15] (fun i wr => ∃ (j : Nat), j ≤ K ∧ i = .int .i64 (j : Int) ∧ Hid (Row h 5 ((cwS s picks n j).map b8) wr) ∧ Hid (Only (fun k => k = h) w2 wr)) (fun i _ => K - (RowKit.intOf i).toNat)
  case atStart => exact ⟨0, by omega, rfl, HH2.out.r1, Only.refl _ _⟩
  case round =>
    obtain ⟨j, hj, rfl, hR, hO⟩ := hrel
    by_cases hlt : j < K
    · obtain ⟨g2, rfl, hg2, hc2⟩ := HC.out (by omega)
      have hlt0 := HH.out.lt
      have hK24 : K ≤ 1024 := by have h1 := HK.out; rw [ksN_len] at h1; have := manyN_le s.di n; omega
      obtain ⟨b, hb⟩ : ∃ b, (ksN s.di n).getD j 0 = b := ⟨_, rfl⟩
      have hbm : b < n ∧ s.di.getD b false = true := by
        refine (ksN_mem s.di n b).1 ?_
        rw [← hb, List.getD_eq_getElem?_getD, List.getElem?_eq_getElem (by rw [HK.out]; exact hlt)]
        exact List.getElem_mem _
      have hg2' : g2 ≠ h := by simp at hg2; omega
      have ck : wr.cell? ⟨g2, j, none⟩ = some (.int .i64 (b : Int)) := by
        have := cell_only hO.out hg2' (hc2 j hlt)
        rwa [hb] at this
      have hr0 : Row g 73 [.slice (some ⟨h, 0, none⟩) (64 * n) (64 * n), .map (some t)] wr := HH2.out.r0.only hO.out fun e => HH.out.ne.1 e
      have d0 : wr.cell? ⟨g, 0, none⟩ = some (.slice (some ⟨h, 0, none⟩) (64 * n) (64 * n)) := hr0.cell (j := 0) (by simp)
      have d1 : wr.cell? ⟨g, 1, none⟩ = some (.map (some t)) := hr0.cell (j := 1) (by simp)
      have HR0 := Lib.hid hr0
      obtain ⟨k2, D2, ho2, hm2⟩ := HH2.out.mp
      have HOW := Lib.hid (ownsMap_only ho2 hO.out fun e => HH.out.ne.2.2 e.symm)
      have HM2 := Lib.hid hm2
      have HB := Lib.hid hb
      have HBM := Lib.hid hbm.1
      have hkey : keyOf Try.prog 3 (.int .i64 (b : Int)) = some (.int .i64 (b : Int)) := keyOf_int_mk Try.underlying3 (WalkArith.wf_i64 (by omega))
      have HKY := Lib.hid hkey
      have hz : RB (.agg (List.replicate 64 (Value.int .u8 0)).toArray) = some (.held (List.replicate 64 0), []) := by
        have := RB_mk (List.replicate 64 0) (by simp)
        rwa [aggB_zero] at this
      have HZ := Lib.hid hz
      have hat := hm2.2 b hbm.1 hbm.2 (.held (List.replicate 64 0))
      have HAT := Lib.hid hat
      have HL64 := Lib.hid (blk_len HH.out.ok.2.1 hbm.1)
      have t0 : (0 : Int) ≤ (j : Int) := by omega
      have t1 : (j : Int) < (K : Int) := by omega
      clear hb hbm hg2 hg2' hc2 hlt0 hr0 ho2 hm2 hkey hz hat
      obtain ⟨κ, hκ⟩ : ∃ κ, keptOf picks j = κ := ⟨_, rfl⟩
      have hκ64 : κ ≤ 64 := hκ ▸ keptOf_le picks j
      obtain ⟨r, hr⟩ : ∃ r, 64 * b + κ = r := ⟨_, rfl⟩
      obtain ⟨d, hd⟩ : ∃ d, 64 * b = d := ⟨_, rfl⟩
      have hfin : ∀ W W' : World, Below wr.heap.size wr W → Hid (Row h 5 (splice ((cwS s picks n j).map b8) r (((blk s.st b).drop κ).map b8)) W') → Hid (Only (fun k => k = h) W W') → Hid (Row h 5 ((cwS s picks n (j + 1)).map b8) W') ∧ Hid (Only (fun k => k = h) w2 W') := by
        intro W W' hb1 hr1 ho1
        refine ⟨?_, (hO.out.trans (Only.of_below hb1)).trans ho1.out⟩
        have := hr1.out
        rw [← splice_map] at this
        unfold cwS at this ⊢
        simp only [cwN]
        rw [HB.out, hκ, hr]
        exact this
      have HF := Lib.hid hfin
      have HR := Lib.hid hr
      have HKA := Lib.hid hκ
      have hbn := HBM.out
      have q1 : IntKind.i64.wrap ((b : Int) * 64) = (d : Int) := by rw [IntWalk.i64_in _ (by omega)]; omega
      have q2 : IntKind.i64.wrap ((d : Int) + (κ : Int)) = (r : Int) := by rw [IntWalk.i64_in _ (by omega)]; omega
      have q3 : (0 : Int) ≤ (r : Int) := by omega
      have q4 : (r : Int) ≤ 64 * (n : Int) := by omega
      have q5 : ((r : Int)).toNat = r := by omega
      have q6 : r ≤ 64 * n := by omega
      have q7 : (0 : Int) ≤ (κ : Int) := by omega
      have q8 : (κ : Int) ≤ 64 := by omega
      have q9 : ((κ : Int)).toNat = κ := by omega
      have HLen : Hid ((cwS s picks n j).length = 64 * n) := cwN_len HH.out.ok.2.1 HH.out.ok.2.2.1 picks j (by rw [HK.out]; exact hj)
      clear hfin hr hκ
      by_cases hjL : j < L
      · have t2 : (j : Int) < (L : Int) := by omega
        have hcp : ∃ b1 o1, a = some ⟨b1, o1, none⟩ ∧ wr.cell? ⟨b1, o1 + j, none⟩ = some (.int .i64 (picks.getD j 0)) := by
          rcases HEL.out.2.2 with h0 | ⟨b1, o1, e, hcc⟩
          · omega
          · refine ⟨b1, o1, e, cell_only hO.out ?_ ?_⟩
            · intro e2
              rcases HA.out _ e with h0 | h0
              · omega
              · exact h0 (Or.inr (Or.inl e2))
            · exact cell_only (Only.of_below (F := fun _ => False) HB0.out) id (hcc j hjL)
        obtain ⟨b1, o1, rfl, cp⟩ := hcp
        obtain ⟨x, hx⟩ : ∃ x, picks.getD j 0 = x := ⟨_, rfl⟩
        rw [hx] at cp
        have HX := Lib.hid hx
        have hxk : min (max x 0) 64 = (κ : Int) := by
          have := HKA.out
          unfold keptOf at this
          rw [hx] at this
          omega
        clear hx
        by_cases hκ1 : κ = 64
        · have HK64 := Lib.hid hκ1
          have q2' : IntKind.i64.wrap ((d : Int) + 64) = (r : Int) := by rw [hκ1] at q2; exact q2
          have hx' : min (max x 0) 64 = 64 := by rw [hκ1] at hxk; exact hxk
          clear q2 q7 q8 q9 hxk hκ1
          by_cases hnr : 64 * n = r
          · go_wp2_with (first
              | (at_lookup; refine wpList_look rfl _ _ 71 rfl 3 87 keyed_int Try.underlying71 RB (zero_block _) (.held (List.replicate 64 0)) [] HZ.out t _ D2 rfl HOW.out _ (.int .i64 (b : Int)) rfl HKY.out ?_; intro v ps hv; obtain ⟨bs, hbl, rfl, hzz⟩ := aggB_of v _ _ hv; obtain rfl := held_eq (HAT.out.symm.trans hzz))
              | (refine wpList_var_agg rfl rfl 87 7 (.tmp 35) rfl rfl rfl rfl (by simp [Act.put]) _ 64 zero_block info_block (by simp) ((blk s.st b).map b8) rfl rfl (by simp [HL64.out]) (b8_one _) ?_))
            clear hv hzz
            try simp only [Act.put, List.setIfInBounds_toArray, List.set_cons_zero, List.set_cons_succ]
            obtain ⟨W2, hW2⟩ : ∃ W2, wr.alloc (Obj.cells ((blk s.st b).map b8).toArray 87) = W2 := ⟨_, rfl⟩
            rw [hW2]
            have hb2 : Below wr.heap.size wr W2 := hW2 ▸ (Below.refl _ _).alloc (Nat.le_refl _) _
            have hbx : Row wr.heap.size 87 ((blk s.st b).map b8) W2 := hW2 ▸ Row.new wr _ _
            have HBX := Lib.hid (hbx.drewN 1)
            have HRD := Lib.hid ((hR.out.up hb2).drewN 1)
            have HB2 := Lib.hid hb2
            have e0 : W2.cell? ⟨g, 0, none⟩ = some (.slice (some ⟨h, 0, none⟩) (64 * n) (64 * n)) := (HR0.out.up hb2).cell (j := 0) (by simp)
            clear hW2 hb2 hbx d0 d1 ck
            refine wp_region_still_tail 11 (by kernel_rfl) (by kernel_rfl) ?_
            simp only [List.take_succ_cons, List.take_zero, List.drop_succ_cons, List.drop_zero]
            iterate 11 still_step
            refine wpStill_nil ?_
            change wpList _ _ _ _ _ W2.drew
            go_wp2_with fail
            obtain ⟨w3, hrun, HR3, HO3⟩ := copy_run (w := W2.drew) (h := h) (off := r) (cur := (cwS s picks n j).map b8) (dp := some ⟨h, 0, none⟩) (dl := 0) (dc := 0) (sp := some ⟨wr.heap.size, 0, none⟩) (sl := 0) (sc := 0) (cs := ((blk s.st b).drop κ).map b8) HRD.out
              (by have := HL64.out; have := HR.out; have := HK64.out; rw [List.length_map, List.length_drop]; show _ = min _ _; omega)
              (fun h0 => by
                rw [List.length_map, List.length_drop, HL64.out, HK64.out] at h0
                omega)
              (by have := HL64.out; have := HR.out; have := HK64.out; have := HLen.out; simp only [List.length_map, List.length_drop]; omega) (b8_one _)
            rw [hrun]
            simp only [Result.andThen_ok, Oper.upon_value]
            clear hrun
            have hF := HF.out W2.drew w3 HB2.out.drew HR3 HO3
            go_wp2_with fail
            go_roundw
            case rel => exact ⟨j + 1, by omega, by go_num, hF.1, hF.2⟩
            case measure => simp [RowKit.intOf]; omega
          · go_wp2_with (first
              | (at_lookup; refine wpList_look rfl _ _ 71 rfl 3 87 keyed_int Try.underlying71 RB (zero_block _) (.held (List.replicate 64 0)) [] HZ.out t _ D2 rfl HOW.out _ (.int .i64 (b : Int)) rfl HKY.out ?_; intro v ps hv; obtain ⟨bs, hbl, rfl, hzz⟩ := aggB_of v _ _ hv; obtain rfl := held_eq (HAT.out.symm.trans hzz))
              | (refine wpList_var_agg rfl rfl 87 7 (.tmp 35) rfl rfl rfl rfl (by simp [Act.put]) _ 64 zero_block info_block (by simp) ((blk s.st b).map b8) rfl rfl (by simp [HL64.out]) (b8_one _) ?_))
            clear hv hzz
            try simp only [Act.put, List.setIfInBounds_toArray, List.set_cons_zero, List.set_cons_succ]
            obtain ⟨W2, hW2⟩ : ∃ W2, wr.alloc (Obj.cells ((blk s.st b).map b8).toArray 87) = W2 := ⟨_, rfl⟩
            rw [hW2]
            have hb2 : Below wr.heap.size wr W2 := hW2 ▸ (Below.refl _ _).alloc (Nat.le_refl _) _
            have hbx : Row wr.heap.size 87 ((blk s.st b).map b8) W2 := hW2 ▸ Row.new wr _ _
            have HBX := Lib.hid (hbx.drewN 1)
            have HRD := Lib.hid ((hR.out.up hb2).drewN 1)
            have HB2 := Lib.hid hb2
            have e0 : W2.cell? ⟨g, 0, none⟩ = some (.slice (some ⟨h, 0, none⟩) (64 * n) (64 * n)) := (HR0.out.up hb2).cell (j := 0) (by simp)
            clear hW2 hb2 hbx d0 d1 ck
            refine wp_region_still_tail 11 (by kernel_rfl) (by kernel_rfl) ?_
            simp only [List.take_succ_cons, List.take_zero, List.drop_succ_cons, List.drop_zero]
            iterate 11 still_step
            refine wpStill_nil ?_
            change wpList _ _ _ _ _ W2.drew
            go_wp2_with fail
            obtain ⟨w3, hrun, HR3, HO3⟩ := copy_run (w := W2.drew) (h := h) (off := r) (cur := (cwS s picks n j).map b8) (dp := some ⟨h, r, none⟩) (dl := 64 * n - r) (dc := 64 * n - r) (sp := some ⟨wr.heap.size, 0, none⟩) (sl := 0) (sc := 0) (cs := ((blk s.st b).drop κ).map b8) HRD.out
              (by have := HL64.out; have := HR.out; have := HK64.out; rw [List.length_map, List.length_drop]; show _ = min _ _; omega)
              (fun h0 => by
                rw [List.length_map, List.length_drop, HL64.out, HK64.out] at h0
                omega)
              (by have := HL64.out; have := HR.out; have := HK64.out; have := HLen.out; simp only [List.length_map, List.length_drop]; omega) (b8_one _)
            rw [hrun]
            simp only [Result.andThen_ok, Oper.upon_value]
            clear hrun
            have hF := HF.out W2.drew w3 HB2.out.drew HR3 HO3
            go_wp2_with fail
            go_roundw
            case rel => exact ⟨j + 1, by omega, by go_num, hF.1, hF.2⟩
            case measure => simp [RowKit.intOf]; omega
        · have hκ2 : ¬ 64 = κ := fun e => hκ1 e.symm
          have hnr : ¬ 64 * n = r := by have := HR.out; omega
          go_wp2_with (first
            | (at_lookup; refine wpList_look rfl _ _ 71 rfl 3 87 keyed_int Try.underlying71 RB (zero_block _) (.held (List.replicate 64 0)) [] HZ.out t _ D2 rfl HOW.out _ (.int .i64 (b : Int)) rfl HKY.out ?_; intro v ps hv; obtain ⟨bs, hbl, rfl, hzz⟩ := aggB_of v _ _ hv; obtain rfl := held_eq (HAT.out.symm.trans hzz))
            | (refine wpList_var_agg rfl rfl 87 7 (.tmp 35) rfl rfl rfl rfl (by simp [Act.put]) _ 64 zero_block info_block (by simp) ((blk s.st b).map b8) rfl rfl (by simp [HL64.out]) (b8_one _) ?_))
          clear hv hzz
          try simp only [Act.put, List.setIfInBounds_toArray, List.set_cons_zero, List.set_cons_succ]
          obtain ⟨W2, hW2⟩ : ∃ W2, wr.alloc (Obj.cells ((blk s.st b).map b8).toArray 87) = W2 := ⟨_, rfl⟩
          rw [hW2]
          have hb2 : Below wr.heap.size wr W2 := hW2 ▸ (Below.refl _ _).alloc (Nat.le_refl _) _
          have hbx : Row wr.heap.size 87 ((blk s.st b).map b8) W2 := hW2 ▸ Row.new wr _ _
          have HBX := Lib.hid (hbx.drewN 1)
          have HRD := Lib.hid ((hR.out.up hb2).drewN 1)
          have HB2 := Lib.hid hb2
          have e0 : W2.cell? ⟨g, 0, none⟩ = some (.slice (some ⟨h, 0, none⟩) (64 * n) (64 * n)) := (HR0.out.up hb2).cell (j := 0) (by simp)
          clear hW2 hb2 hbx d0 d1 ck
          refine wp_region_still_tail 11 (by kernel_rfl) (by kernel_rfl) ?_
          simp only [List.take_succ_cons, List.take_zero, List.drop_succ_cons, List.drop_zero]
          iterate 11 still_step
          refine wpStill_nil ?_
          change wpList _ _ _ _ _ W2.drew
          go_wp2_with fail
          obtain ⟨w3, hrun, HR3, HO3⟩ := copy_run (w := W2.drew) (h := h) (off := r) (cur := (cwS s picks n j).map b8) (dp := some ⟨h, r, none⟩) (dl := 64 * n - r) (dc := 64 * n - r) (sp := some ⟨wr.heap.size, κ, none⟩) (sl := 64 - κ) (sc := 64 - κ) (cs := ((blk s.st b).drop κ).map b8) HRD.out
            (by have := HL64.out; have := HR.out; rw [List.length_map, List.length_drop]; show _ = min _ _; omega)
            (fun h0 => by
              rw [List.length_map, List.length_drop, HL64.out] at h0
              first
                | omega
                | exact ⟨rfl, block_src HBX.out HL64.out rfl⟩)
            (by have := HL64.out; have := HR.out; have := HLen.out; simp only [List.length_map, List.length_drop]; omega) (b8_one _)
          rw [hrun]
          simp only [Result.andThen_ok, Oper.upon_value]
          clear hrun
          have hF := HF.out W2.drew w3 HB2.out.drew HR3 HO3
          go_wp2_with fail
          go_roundw
          case rel => exact ⟨j + 1, by omega, by go_num, hF.1, hF.2⟩
          case measure => simp [RowKit.intOf]; omega
      · have hκ0 : κ = 0 := by
          have := HKA.out
          unfold keptOf at this
          rw [getD_over _ _ (by rw [HEL.out.1]; omega)] at this
          omega
        have t2 : ¬ (j : Int) < (L : Int) := by omega
        have hnr : ¬ 64 * n = r := by have := HR.out; omega
        have q1' : IntKind.i64.wrap ((b : Int) * 64) = (r : Int) := by have := HR.out; rw [q1]; omega
        have q2' : IntKind.i64.wrap (r : Int) = (r : Int) := IntWalk.i64_in _ (by omega)
        have HK0 := Lib.hid hκ0
        clear q1 q2 q7 q8 q9 hκ0 hjL
        go_wp2_with (first
          | (at_lookup; refine wpList_look rfl _ _ 71 rfl 3 87 keyed_int Try.underlying71 RB (zero_block _) (.held (List.replicate 64 0)) [] HZ.out t _ D2 rfl HOW.out _ (.int .i64 (b : Int)) rfl HKY.out ?_; intro v ps hv; obtain ⟨bs, hbl, rfl, hzz⟩ := aggB_of v _ _ hv; obtain rfl := held_eq (HAT.out.symm.trans hzz))
          | (refine wpList_var_agg rfl rfl 87 7 (.tmp 35) rfl rfl rfl rfl (by simp [Act.put]) _ 64 zero_block info_block (by simp) ((blk s.st b).map b8) rfl rfl (by simp [HL64.out]) (b8_one _) ?_))
        clear hv hzz
        try simp only [Act.put, List.setIfInBounds_toArray, List.set_cons_zero, List.set_cons_succ]
        obtain ⟨W2, hW2⟩ : ∃ W2, wr.alloc (Obj.cells ((blk s.st b).map b8).toArray 87) = W2 := ⟨_, rfl⟩
        rw [hW2]
        have hb2 : Below wr.heap.size wr W2 := hW2 ▸ (Below.refl _ _).alloc (Nat.le_refl _) _
        have hbx : Row wr.heap.size 87 ((blk s.st b).map b8) W2 := hW2 ▸ Row.new wr _ _
        have HBX := Lib.hid (hbx.drewN 1)
        have HRD := Lib.hid ((hR.out.up hb2).drewN 1)
        have HB2 := Lib.hid hb2
        have e0 : W2.cell? ⟨g, 0, none⟩ = some (.slice (some ⟨h, 0, none⟩) (64 * n) (64 * n)) := (HR0.out.up hb2).cell (j := 0) (by simp)
        clear hW2 hb2 hbx d0 d1 ck
        refine wp_region_still_tail 11 (by kernel_rfl) (by kernel_rfl) ?_
        simp only [List.take_succ_cons, List.take_zero, List.drop_succ_cons, List.drop_zero]
        iterate 11 still_step
        refine wpStill_nil ?_
        change wpList _ _ _ _ _ W2.drew
        go_wp2_with fail
        obtain ⟨w3, hrun, HR3, HO3⟩ := copy_run (w := W2.drew) (h := h) (off := r) (cur := (cwS s picks n j).map b8) (dp := some ⟨h, r, none⟩) (dl := 64 * n - r) (dc := 64 * n - r) (sp := some ⟨wr.heap.size, 0, none⟩) (sl := 64) (sc := 64) (cs := ((blk s.st b).drop κ).map b8) HRD.out
          (by have := HL64.out; have := HR.out; have := HK0.out; rw [List.length_map, List.length_drop]; show _ = min _ _; omega)
          (fun h0 => by
            rw [List.length_map, List.length_drop, HL64.out] at h0
            first
              | omega
              | exact ⟨rfl, block_src HBX.out HL64.out HK0.out.symm⟩)
          (by have := HL64.out; have := HR.out; have := HK0.out; have := HLen.out; simp only [List.length_map, List.length_drop]; omega) (b8_one _)
        rw [hrun]
        simp only [Result.andThen_ok, Oper.upon_value]
        clear hrun
        have hF := HF.out W2.drew w3 HB2.out.drew HR3 HO3
        go_wp2_with fail
        go_roundw
        case rel => exact ⟨j + 1, by omega, by go_num, hF.1, hF.2⟩
        case measure => simp [RowKit.intOf]; omega
    · obtain rfl : j = K := by omega
      have hlt' : ¬ (j : Int) < (j : Int) := by omega
      clear hlt
      obtain ⟨k2, D2, ho2, hm2⟩ := HH2.out.mp
      have how := ownsMap_only ho2 hO.out fun e => HH.out.ne.2.2 e.symm
      have hr0 : Row g 73 [.slice (some ⟨h, 0, none⟩) (64 * n) (64 * n), .map (some t)] wr := HH2.out.r0.only hO.out fun e => HH.out.ne.1 e
      have HY := Lib.hid (sync_raw wr (hr0.cell (j := 1) (by simp)) how)
      have HR0 := Lib.hid hr0
      clear ho2 hm2 how hr0
      go_wp2_with fail
      refine Calls.mono HY.out ?_
      rintro e w4 ⟨rfl, hO4, hM4⟩
      have HO4 := Lib.hid hO4
      have HM4 := Lib.hid hM4
      clear hO4 hM4 HY
      go_wp2_with fail
      go_end0
      obtain ⟨l1, l2, l3, l4⟩ := HH.out.ok
      obtain ⟨n0, n1, n2⟩ := HH.out.ne
      have hcw : cwS s picks n j = (crsN s.st s.nw s.di picks n).1 := by
        unfold cwS
        rw [← HK.out]
        exact cw_all l2 l3 HH.out.cl picks
      have hR' := hR.out
      rw [hcw] at hR'
      refine ⟨rfl, ?_, HR0.out.only HO4.out fun e => n1 e, ?_, ⟨0, _, HM4.out, MapIs.none n _ _ ?_⟩, HH.out.ne, ?_, Clean.same⟩
      · exact ((Only.of_below HB0.out).trans (hO.out.mono fun k _ e => Or.inr (Or.inl e))).trans (HO4.out.mono fun k _ e => Or.inr (Or.inr e))
      · have := hR'.only HO4.out fun e => n2 e
        rw [← l1] at this
        exact this
      · rw [show (s.crash picks).di = List.replicate s.di.length false from rfl, l1]
        exact none_di n
      · simp [Dsk.crash, crsN_len, l1, l2, l4]
end Go.Proofs.Ytehfbafocbcfnaa
