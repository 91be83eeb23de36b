/- The document's answer of layer 10: whether an entry may be posted. -/
import Derived.Test.YtcdkgfjjgebcnaaDoorBookRef3
import Derived.Deep.RegionLaw
namespace Go.Proofs.YtcdkgfjjgebcnaaDoor
open Go Go.RowKit
set_option linter.unusedVariables false

theorem over_step {b : Int → Int → Int} {l : List Ln} {j : Nat} {x : Ln} (h : l[j]? = some x) :
    overL b (l.take j) (l.drop j) = ((decide (¬ in64 (b x.k x.o + balL x.k x.o (l.take (j + 1)))) || decide (x.v = -9223372036854775808)) || overL b (l.take (j + 1)) (l.drop (j + 1))) := by
  have hj := (List.getElem?_eq_some_iff.1 h)
  obtain ⟨hl, e⟩ := hj
  have e2 : l.take (j + 1) = l.take j ++ [x] := by rw [List.take_add_one, h]; rfl
  rw [List.drop_eq_getElem_cons hl, e, overL, e2]
theorem any_step {l : List Ln} {j : Nat} {x : Ln} (h : l[j]? = some x) : (l.take (j + 1)).any badL = ((l.take j).any badL || badL x) := by
  rw [List.take_add_one, h]
  simp
theorem any_take {l : List Ln} {j : Nat} (h : (l.take j).any badL = true) : l.any badL = true := by
  rw [List.any_eq_true] at h ⊢
  obtain ⟨x, hx, hb⟩ := h
  exact ⟨x, List.mem_of_mem_take hx, hb⟩
theorem badL_iff (x : Ln) : badL x = true ↔ (¬ MayK x.k x.o ∨ x.v = 0) := by
  unfold badL
  simp

/-- the sum of amounts on its way -/
structure AllAt (w : World) (n : Int) (a : Option Addr) (l c : Nat) (m : Bool) (wr : World) : Prop where
  num : NumVar wr w.heap.size n a l c m
  below : Below w.heap.size w wr
section
variable {w : World} {n : Int} {a : Option Addr} {l c : Nat} {m : Bool} {wr w6 : World}
theorem AllAt.call (h : AllAt w n a l c m wr) (hb : Below wr.heap.size wr w6) : AllAt w n a l c m w6 := ⟨h.num.up hb, h.below.trans (hb.mono h.below.size)⟩
theorem AllAt.drew (h : AllAt w n a l c m wr) : AllAt w n a l c m wr.drew := h.call (Below.refl _ _).drew
theorem AllAt.put {n' : Int} {a' : Option Addr} {l' c' : Nat} {m' : Bool} (h : AllAt w n a l c m wr) (hn : NumAt wr (.agg #[.slice a' l' c', .bool m']) n') :
    AllAt w n' a' l' c' m' ((wr.setCell ⟨w.heap.size, 0, none⟩ (.slice a' l' c')).setCell ⟨w.heap.size, 1, none⟩ (.bool m')) :=
  ⟨h.num.put hn, (h.below.setCell (Nat.le_refl _) _).setCell (Nat.le_refl _) _⟩
end
theorem small_sumV' (l : List Ln) (h : AllV l) (hl : l.length ≤ 1000) : Small (sumV l) := by
  have h1 := sumV_bound l h
  have h2 : l.length * 9223372036854775808 ≤ 1000 * 9223372036854775808 := Nat.mul_le_mul_right _ hl
  have h3 : 1000 * 9223372036854775808 < 65536 ^ 60 := by decide
  exact Nat.lt_of_le_of_lt (Nat.le_trans h1 h2) h3

theorem num_len10 {w : World} {a : Option Addr} {l c : Nat} {m : Bool} {n : Int} (h : NumAt w (.agg #[.slice a l c, .bool m]) n) : (n = 0 → l = 0) ∧ (n ≠ 0 → 0 < l) := by
  obtain ⟨a', len', cap', ds, he, hc, _, _, hcan, hv⟩ := h
  simp only [Value.agg.injEq, Array.mk.injEq, List.cons.injEq, Value.slice.injEq, and_true] at he
  have e := he.1.2.1
  have hl := hc.1
  rw [List.length_map] at hl
  constructor
  · intro h0
    have hds := canon_zero hcan (by rw [hv, h0]; rfl)
    rw [hds] at hl
    simp at hl
    omega
  · intro h0
    rcases Nat.eq_zero_or_pos l with h1 | h1
    · exfalso
      have hds : ds = [] := List.eq_nil_of_length_eq_zero (by omega)
      rw [hds] at hv
      simp only [val] at hv
      omega
    · exact h1
theorem inR_iff (n : Int) : inR n = decide (in64 n) := by
  unfold inR in64
  by_cases h1 : -9223372036854775808 ≤ n <;> by_cases h2 : n ≤ 9223372036854775807 <;> simp [h1, h2]

set_option maxRecDepth 100000 in
set_option maxHeartbeats 16000000 in
theorem refMay10_any (M : Nat → Prop) (g : Nat) (s : Bk) (a : Option Addr) (n c : Nat) (ls : List Ln) (w : World) (hM : MBook M g s w) (hf : Fine s) (hl : LinesAt w a n ls) (hok : OkL ls) (hn : n ≤ 1000) (hnc : n ≤ c) (hcm : c ≤ maxLen) :
    Calls Tryd.prog 28 #[.pointer (some ⟨g, 0, none⟩), .slice a n c] w fun e w' => e = .returned (.int .i64 (s.mayN ls : Int)) ∧ Below w.heap.size w w' := by
  have rb := build_num
  have HM := Lib.hid (fun W (hW : Below w.heap.size w W) => hM.up hW)
  have HL := Lib.hid (fun W (hW : Below w.heap.size w W) => hl.up hW)
  have HLN := Lib.hid hl.1
  have HF := Lib.hid hf
  have HOK := Lib.hid hok
  have HV2 : Hid (AllV ls) := fun x hx => (hok x hx).2.2
  have HCM := Lib.hid hcm
  obtain ⟨aL, cL, aD, cD, h0, -⟩ := hM.head
  have h4096 := hf.len
  have htot := hf.total
  obtain ⟨NL, hNL⟩ : ∃ NL, s.L.length = NL := ⟨_, rfl⟩
  have HNL := Lib.hid hNL
  rw [hNL] at h0 h4096
  obtain ⟨R, hR⟩ : ∃ R, s.mayN ls = R := ⟨_, rfl⟩
  have HR := Lib.hid hR
  rw [hR]
  clear hM hl hf hok hcm hNL hR
  go_enter Tryd.func28, Tryd.ntmps28
  by_cases hfull : NL = 4096
  · have t0 : (4096 : Int) ≤ (NL : Int) := by omega
    have hr : R = 8 := by rw [← HR.out]; unfold Bk.mayN; rw [if_pos (by rw [HNL.out]; omega)]
    subst hr
    go_wp2_with fail
    go_ret
    exact ⟨by simp, Below.refl _ _⟩
  · have t0 : ¬ (4096 : Int) ≤ (NL : Int) := by omega
    by_cases hlen : n < 1 ∨ 32 < n
    · have hr : R = 1 := by rw [← HR.out]; unfold Bk.mayN; rw [if_neg (by rw [HNL.out]; omega), if_pos (by rw [HLN.out]; exact hlen)]
      subst hr
      have hcase : (n : Int) < 1 ∨ (¬ (n : Int) < 1 ∧ (32 : Int) < (n : Int)) := by omega
      clear hlen
      rcases hcase with t1 | ⟨t1, t2⟩
      all_goals
        go_wp2_with fail
        go_ret
        exact ⟨by simp, Below.refl _ _⟩
    · have t1 : ¬ (n : Int) < 1 := by omega
      have t2 : ¬ (32 : Int) < (n : Int) := by omega
      have HR1 : Hid (R = if ls.any badL = true then 1 else if sumV ls ≠ 0 then 2 else if overL s.bal [] ls = true then 3 else 0) := by
        show R = _
        rw [← HR.out]
        unfold Bk.mayN
        rw [if_neg (by rw [HNL.out]; omega), if_neg (by rw [HLN.out]; exact hlen)]
      have hA0 : AllAt w 0 none 0 0 false (w.alloc (Obj.cells #[.slice none 0 0, .bool false] 54)) := ⟨num_zero10 (Row.new w [.slice none 0 0, .bool false] _), (Below.refl _ _).alloc (Nat.le_refl _) _⟩
      have HA0 := Lib.hid hA0
      clear hlen hA0
      go_wp2_with fail
      go_loopw [6] (fun i wr => ∃ (j : Nat) (an : Option Addr) (ln cn : Nat) (mn : Bool), i = .int .i64 (j : Int) ∧ j ≤ n ∧ Hid (AllAt w (sumV (ls.take j)) an ln cn mn wr) ∧ Hid ((ls.take j).any badL = false)) (fun i _ => n - (RowKit.intOf i).toNat)
      case atStart => exact ⟨0, none, 0, 0, false, rfl, by omega, by rw [List.take_zero]; exact HA0, by rw [List.take_zero]; exact rfl⟩
      case round =>
        obtain ⟨j, an, ln, cn, mn, rfl, hj, hX, hbad⟩ := hrel
        by_cases hlt : j < n
        · have u1 : (j : Int) < (n : Int) := by omega
          obtain ⟨q, o, x, rfl, hx, hxm, x0, x1, x2⟩ := (HL.out _ hX.out.below).get hlt
          have hst := sumV_take ls hx
          have hany := any_step hx
          have hx64 := HV2.out x hxm
          have HX64 := Lib.hid hx64
          have HXJ := Lib.hid hx
          obtain ⟨S0, hS0⟩ : ∃ S0, sumV (ls.take j) = S0 := ⟨_, rfl⟩
          obtain ⟨S1, hS1⟩ : ∃ S1, sumV (ls.take (j + 1)) = S1 := ⟨_, rfl⟩
          have sm1 : Hid (Small S0) := by rw [← hS0]; exact small_sumV' _ (fun y hy => HV2.out y (List.mem_of_mem_take hy)) (by rw [List.length_take]; omega)
          have sm2 : Hid (Small x.v) := small_v hx64
          rw [hS0] at hX
          have HST : Hid (S1 = S0 + x.v) := by rw [← hS1, hst, hS0]; show _ = _; omega
          have HS1 := Lib.hid hS1
          have HANY := Lib.hid hany
          clear hst hany hx64 hS0 hS1 hx
          go_wp2_with fail
          refine (refMay9_any x.k x.o _).mono ?_
          rintro e w3 ⟨rfl, hb3⟩
          replace hX := Lib.hid (hX.out.call hb3)
          clear hb3 x0 x1 x2
          obtain ⟨q', o', x', e', hx', -, x0, x1, x2⟩ := (HL.out _ hX.out.below).get hlt
          cases e'
          obtain rfl : x = x' := by rw [HXJ.out] at hx'; exact Option.some.inj hx'
          clear hx'
          by_cases hbx : badL x = true
          · have hr : R = 1 := by
              rw [HR1.out, if_pos]
              refine any_take (j := j + 1) ?_
              rw [HANY.out, hbx]
              simp
            subst hr
            have hcase : ¬ MayK x.k x.o ∨ (MayK x.k x.o ∧ (x.v == 0) = true) := by
              rcases (badL_iff x).1 hbx with h | h
              · exact Or.inl h
              · by_cases hm : MayK x.k x.o
                · exact Or.inr ⟨hm, by simp [h]⟩
                · exact Or.inl hm
            clear hbx
            rcases hcase with hm | ⟨hm, tv⟩
            all_goals
              simp only [hm, decide_true, decide_false]
              clear hm
              go_wp2_with fail
              go_ret
              exact ⟨by simp, hX.out.below⟩
          · have hm : MayK x.k x.o ∧ (x.v == 0) = false := by
              have := mt (badL_iff x).2 hbx
              simp only [not_or, Decidable.not_not] at this
              exact ⟨this.1, by simpa using this.2⟩
            have hbf : badL x = false := by simpa using hbx
            have hnew : Hid ((ls.take (j + 1)).any badL = false) := by show _ = _; rw [HANY.out, hbad.out, hbf]; rfl
            obtain ⟨hm, tv⟩ := hm
            simp only [hm, decide_true]
            have k0 := hX.out.num.c0
            have k1 := hX.out.num.c1
            clear hm hbx hbf hbad
            go_wp2_with fail
            go_region_law (first
              | (go_simp; go_at_call 24; refine (of_any x.v HX64.out _).mono ?_; rintro e y1 ⟨u1, rfl, M1, P1⟩
                 have V1 := hX.out.drew.call P1
                 have k0' := V1.num.c0
                 have k1' := V1.num.c1
                 have HV1 := Lib.hid V1
                 have M1' := Lib.hid M1
                 clear V1 M1 P1)
              | (go_simp; go_at_call 23; refine (addN_any (.agg #[.slice an ln cn, .bool mn]) u1 S0 x.v _ HV1.out.num.num M1'.out sm1.out sm2.out).mono ?_; rintro e y2 ⟨u2, rfl, M2, P2⟩
                 obtain ⟨a4, l4, c4, d4, rfl, R4⟩ := M2
                 obtain ⟨m4, hm4⟩ : ∃ m4, decide (S0 + x.v < 0) = m4 := ⟨_, rfl⟩
                 have V2 := HV1.out.call P2
                 have k0'' := V2.num.c0
                 have k1'' := V2.num.c1
                 have f0'' := V2.num.f0
                 have f1'' := V2.num.f1
                 have HNV : Hid (AllAt w S1 a4 l4 c4 m4 ((y2.setCell ⟨w.heap.size, 0, none⟩ (.slice a4 l4 c4)).setCell ⟨w.heap.size, 1, none⟩ (.bool m4))) := by
                   rw [HST.out, ← hm4]; exact V2.put ⟨a4, l4, c4, d4, rfl, R4⟩
                 rw [hm4]
                 clear V2 P2 R4 hm4))
            all_goals
              go_wp2_with fail
              go_roundw
              case rel => exact ⟨j + 1, a4, l4, c4, m4, by go_num, by omega, by rw [HS1.out]; exact HNV, hnew⟩
              case measure => simp [RowKit.intOf]; omega
        · have u1 : ¬ (j : Int) < (n : Int) := by omega
          have hjn : ls.take j = ls := List.take_of_length_le (by rw [HLN.out]; omega)
          rw [hjn] at hX hbad
          have HR2 : Hid (R = if sumV ls ≠ 0 then 2 else if overL s.bal [] ls = true then 3 else 0) := by
            show R = _
            rw [HR1.out, hbad.out, if_neg (by simp)]
          have k0 := hX.out.num.c0
          have k1 := hX.out.num.c1
          clear hjn hlt hbad
          obtain ⟨nl1, nl2⟩ := num_len10 hX.out.num.num
          by_cases hz : sumV ls = 0
          · obtain rfl := nl1 hz
            have HR3 : Hid (R = if overL s.bal [] ls = true then 3 else 0) := by
              show R = _
              rw [HR2.out, if_neg (by simpa using hz)]
            have HBX := Lib.hid hX.out.below
            clear hz hX nl1 nl2
            go_wp2_with fail
            go_loopw [8] (fun i wr => ∃ j : Nat, i = .int .i64 (j : Int) ∧ j ≤ n ∧ Hid (Below w.heap.size w wr) ∧ Hid (overL s.bal (ls.take j) (ls.drop j) = overL s.bal [] ls)) (fun i _ => n - (RowKit.intOf i).toNat)
            case atStart => exact ⟨0, rfl, by omega, HBX, by rw [List.take_zero, List.drop_zero]; exact rfl⟩
            case round =>
              obtain ⟨j, rfl, hj, hbel, hov⟩ := hrel
              by_cases hlt : j < n
              · have u1 : (j : Int) < (n : Int) := by omega
                have hli := HL.out _ hbel.out
                obtain ⟨q, o, x, rfl, hx, hxm, x0, x1, x2⟩ := hli.get hlt
                have hstep := over_step (b := s.bal) hx
                have htk := hli.take (m := j + 1) (by omega)
                have HTK := Lib.hid htk
                have HXJ := Lib.hid hx
                obtain ⟨T, hT⟩ : ∃ T, s.bal x.k x.o + balL x.k x.o (ls.take (j + 1)) = T := ⟨_, rfl⟩
                rw [hT, hov.out] at hstep
                have HST := Lib.hid hstep
                have HT := Lib.hid hT
                have smT : Hid (Small T) := by
                  rw [← hT]
                  unfold Bk.bal
                  rw [← balL_append]
                  refine small_balL _ _ _ (fun y hy => ?_) ?_
                  · rcases List.mem_append.1 hy with hy | hy
                    · exact HF.out.v y hy
                    · exact HV2.out y (List.mem_of_mem_take hy)
                  · rw [List.length_append, List.length_take]
                    omega
                have g0 : IntKind.i64.wrap ((j : Int) + 1) = (j : Int) + 1 := IntWalk.i64_in _ (by omega)
                have g1 : 0 ≤ (j : Int) + 1 := by omega
                have g2 : (j : Int) + 1 ≤ (c : Int) := by omega
                have g3 : ((j : Int) + 1).toNat = j + 1 := by omega
                have HVT : Hid (AllV (ls.take (j + 1))) := fun y hy => HV2.out y (List.mem_of_mem_take hy)
                have HSUM : Hid (Calls Tryd.prog 33 #[.pointer (some ⟨g, 0, none⟩), .agg #[.int .i64 x.k, .int .i64 x.o], .slice (some ⟨q, o, none⟩) (j + 1) c] wr.drew (fun e y1 => ∃ v1, e = .returned v1 ∧ NumAt y1 v1 T ∧ Below w.heap.size w y1)) := by
                  refine (refSum10_any M g s x.k x.o (some ⟨q, o, none⟩) (j + 1) c (ls.take (j + 1)) wr.drew (HM.out _ hbel.out.drew) (htk.up (Below.refl wr.heap.size wr).drew) HF.out.v HVT.out (by omega) (by have := HF.out.len; omega) (by omega)).mono ?_
                  rintro e y1 ⟨v1, rfl, M1, P1⟩
                  rw [hT] at M1
                  exact ⟨v1, rfl, M1, hbel.out.drew.trans (P1.mono hbel.out.drew.size)⟩
                have HTO : Hid (∀ W v, NumAt W v T → Below w.heap.size w W → Calls Tryd.prog 32 #[v] W (fun e y2 => ∃ z : Int, e = .returned (.tuple #[.int .i64 z, .bool (decide (in64 T))]) ∧ Below w.heap.size w y2)) := by
                  intro W v h1 h2
                  refine (to_any v T W h1 smT.out).mono ?_
                  rintro e y2 ⟨z, rfl, -, P2⟩
                  exact ⟨z, by rw [inR_iff], h2.trans (P2.mono h2.size)⟩
                clear hstep hT hx htk hli hov
                go_wp2_with fail
                go_region_law (first
                  | (go_simp; go_at_call 33; refine HSUM.out.mono ?_; rintro e y1 ⟨v1, rfl, M1, P1⟩
                     have HM1 := Lib.hid M1
                     have HP1 := Lib.hid P1
                     clear M1 P1)
                  | (go_simp; go_at_call 32; refine (HTO.out _ _ HM1.out HP1.out).mono ?_; rintro e y2 ⟨z, rfl, P2⟩
                     have HP2 := Lib.hid P2
                     clear P2))
                all_goals
                  obtain ⟨q', o', x', e', hx', -, x0, x1, x2⟩ := (HL.out _ HP2.out).get hlt
                  cases e'
                  obtain rfl : x = x' := by rw [HXJ.out] at hx'; exact Option.some.inj hx'
                  clear hx'
                  by_cases hbad : ¬ in64 T ∨ x.v = -9223372036854775808
                  · have hr : R = 3 := by
                      rw [HR3.out, HST.out]
                      rcases hbad with h | h
                      · simp [h]
                      · simp [h]
                    subst hr
                    by_cases hT64 : in64 T
                    · have tv : (x.v == -9223372036854775808) = true := by
                        rcases hbad with h | h
                        · exact absurd hT64 h
                        · simp [h]
                      simp only [hT64, decide_true]
                      clear hbad hT64
                      go_wp2_with fail
                      go_ret
                      exact ⟨by simp, HP2.out⟩
                    · simp only [hT64, decide_false]
                      clear hbad hT64
                      go_wp2_with fail
                      go_ret
                      exact ⟨by simp, HP2.out⟩
                  · have hT64 : in64 T := by
                      rcases Classical.em (in64 T) with h | h
                      · exact h
                      · exact absurd (Or.inl h) hbad
                    have hxv : ¬ x.v = -9223372036854775808 := fun h => hbad (Or.inr h)
                    have tv : (x.v == -9223372036854775808) = false := by simpa using hxv
                    have hnew : Hid (overL s.bal (ls.take (j + 1)) (ls.drop (j + 1)) = overL s.bal [] ls) := by
                      show _ = _
                      rw [HST.out]
                      simp [hT64, hxv]
                    simp only [hT64, decide_true]
                    clear hbad hT64 hxv
                    go_wp2_with fail
                    go_roundw
                    case rel => exact ⟨j + 1, by go_num, by omega, HP2, hnew⟩
                    case measure => simp [RowKit.intOf]; omega
              · have u1 : ¬ (j : Int) < (n : Int) := by omega
                have hr : R = 0 := by
                  rw [HR3.out, ← hov.out, List.drop_eq_nil_of_le (by rw [HLN.out]; omega)]
                  rfl
                subst hr
                clear hlt hov
                go_wp2_with fail
                go_ret
                exact ⟨by simp, hbel.out⟩
          · have nl := nl2 hz
            have u2 : (0 : Int) < (ln : Int) := by omega
            have hr : R = 2 := by rw [HR2.out, if_pos (by simpa using hz)]
            subst hr
            clear nl1 nl2 nl hz
            go_wp2_with fail
            go_ret
            exact ⟨by simp, hX.out.below⟩
end Go.Proofs.YtcdkgfjjgebcnaaDoor
