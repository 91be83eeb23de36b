/- The landed package chart: Name, Parse; all its contracts. -/
import Derived.Test.YtkiehlkmbkgenaaDoorChart2
import Derived.Lib.AppendIntMem
namespace Go.Proofs.YtkiehlkmbkgenaaDoor
open Go Go.RowKit
set_option linter.unusedVariables false

set_option linter.unusedSimpArgs false in
set_option maxRecDepth 100000 in
set_option maxHeartbeats 4000000 in
theorem name_any (k o : Int) (w : World) (T : Kin w) (hk : i64 k) (ho : i64 o) : Calls Tryd.prog 9 #[accV k o] w (NameTo w k o) := by
  have HX := Lib.hid (At2.new w k o)
  have HA := Lib.hid (Below.alloc (Below.refl w.heap.size w) (Nat.le_refl _) (Obj.cells #[.int .i64 k, .int .i64 o] 23))
  have HT := Lib.hid (T.of HA.out)
  have HI := Lib.hid (And.intro hk ho)
  clear T hk ho
  go_enter Tryd.func9, Tryd.ntmps9
  go_wp2_with fail
  refine (may_any k o _ HT.out HI.out.1 HI.out.2).mono ?_
  rintro e w1 ⟨rfl, hb⟩
  replace HX := Lib.hid (HX.out.up hb)
  have HB := Lib.hid (HA.out.trans (hb.mono HA.out.size))
  replace HT := Lib.hid (HT.out.of hb)
  clear hb HA
  obtain ⟨a0, a1, -⟩ := HX.out
  by_cases hM : MayK k o
  · simp only [hM, decide_true]
    obtain ⟨j, n, hj1, hj, hn, rfl, rfl⟩ : ∃ j n : Nat, 1 ≤ j ∧ j < 13 ∧ n ≤ 65536 ∧ k = (j : Int) ∧ o = (n : Int) := ⟨k.toNat, o.toNat, by unfold MayK at hM; omega, by unfold MayK at hM; omega, by unfold MayK at hM; omega, by unfold MayK at hM; omega, by unfold MayK at hM; omega⟩
    have hc := HT.out.nm3 j hj
    have hnK : namK j = nam j := if_neg (by omega)
    rw [hnK] at hc
    have HN := Lib.hid hnK
    clear hnK
    have HM := Lib.hid hM
    clear hM
    have q3 : (0 : Int) ≤ (j : Int) := by omega
    have q4 : (j : Int) < 13 := by omega
    by_cases h0 : n = 0
    · subst h0
      go_wp2_with fail
      go_ret2
      refine ⟨HB.out, Or.inl ⟨HM.out, ?_⟩⟩
      simp [nameL]
    · have t1 : ((n : Int) == 0) = false := by simp; exact h0
      have H0 := Lib.hid h0
      have t2 : (strL (nam j)).size + 1 ≤ 9223372036854775807 := by
        have := (nam_len ⟨j, by omega⟩ hj1).2
        simp only at this
        rw [strL_size]; omega
      have t3 : (strL (nam j) ++ strL [46]).size + (strL (decL n)).size ≤ 9223372036854775807 := by
        have := (nam_len ⟨j, by omega⟩ hj1).2
        have := decL_len 5 n (by omega)
        simp only at *
        rw [strL_append, strL_size, strL_size, List.length_append, List.length_singleton]; omega
      have t4 : (strL (nam j)).size + 1 + (strL (decL n)).size ≤ 9223372036854775807 := by
        have := (nam_len ⟨j, by omega⟩ hj1).2
        have := decL_len 5 n (by omega)
        simp only at *
        rw [strL_size, strL_size]; omega
      have ee : strL (nam j) ++ strL [46] ++ strL (decL n) = strL (nameL j n) := by
        rw [strL_append, strL_append]; simp [nameL, h0]
      have EE := Lib.hid ee
      have t5 : ¬ 9223372036854775807 < (strL (nam j)).size + 1 := by omega
      have t6 : ¬ 9223372036854775807 < (strL (nam j)).size + 1 + (strL (decL n)).size := by omega
      have t7 : ¬ 9223372036854775807 < (strL (nam j) ++ { data := #[46] } : ByteArray).size + (strL (decL n)).size := by
        have : (strL (nam j) ++ { data := #[46] } : ByteArray).size = (strL (nam j)).size + 1 := by rw [ByteArray.size_append]; rfl
        omega
      have hS := Lib.hid (And.intro (HX.out.up (Below.refl _ _).drew).c0 (And.intro (HX.out.up (Below.refl _ _).drew).c1 ((HT.out.drew.nm3 j hj).trans (by rw [HN.out]))))
      clear ee h0
      go_wp2_with fail
      clear a0 a1 hc
      refine wp_region_held_drew (S := fun w' => w'.cell? ⟨w.heap.size, 0, none⟩ = some (.int .i64 (j : Int)) ∧ w'.cell? ⟨w.heap.size, 1, none⟩ = some (.int .i64 (n : Int)) ∧ w'.cell? ⟨0, j * 3, none⟩ = some (.string (strL (nam j)))) (by kernel_rfl) hS.out (fun hHeld => ?_)
      refine wpAnyH_take (i := 0) (v := ?_) rfl (by kernel_rfl) (by kernel_rfl) (by kernel_rfl) (fun _ _ _ h => h) (Or.inl ⟨by rfl, ?_⟩) (by assumption) ?_
      rotate_left
      · (intro w hSw; (try dsimp only at hSw); go_simp) <;> with_reducible rfl
      try simp only [Act.put, List.getElem_toArray, List.getElem_cons_zero, List.getElem_cons_succ, List.setIfInBounds_toArray, List.set_cons_zero, List.set_cons_succ]
      refine wpAnyH_take (i := 1) (v := ?_) rfl (by kernel_rfl) (by kernel_rfl) (by kernel_rfl) (fun _ _ _ h => h) (Or.inl ⟨by rfl, ?_⟩) (by assumption) ?_
      rotate_left
      · (intro w hSw; (try dsimp only at hSw); go_simp) <;> with_reducible rfl
      try simp only [Act.put, List.getElem_toArray, List.getElem_cons_zero, List.getElem_cons_succ, List.setIfInBounds_toArray, List.set_cons_zero, List.set_cons_succ]
      refine wpAnyH_take (i := 2) (v := ?_) rfl (by kernel_rfl) (by kernel_rfl) (by kernel_rfl) (fun _ _ _ h => h) (Or.inl ⟨by rfl, ?_⟩) (by assumption) ?_
      rotate_left
      · (intro w hSw; (try dsimp only at hSw); go_simp) <;> with_reducible rfl
      try simp only [Act.put, List.getElem_toArray, List.getElem_cons_zero, List.getElem_cons_succ, List.setIfInBounds_toArray, List.set_cons_zero, List.set_cons_succ]
      refine wpAnyH_take (i := 3) (v := ?_) rfl (by kernel_rfl) (by kernel_rfl) (by kernel_rfl) (fun _ _ _ h => h) (Or.inl ⟨by rfl, ?_⟩) (by assumption) ?_
      rotate_left
      · (intro w hSw; (try dsimp only at hSw); go_simp) <;> with_reducible rfl
      try simp only [Act.put, List.getElem_toArray, List.getElem_cons_zero, List.getElem_cons_succ, List.setIfInBounds_toArray, List.set_cons_zero, List.set_cons_succ]
      refine wpAnyH_take (i := 4) (v := ?_) rfl (by kernel_rfl) (by kernel_rfl) (by kernel_rfl) (fun _ _ _ h => h) (Or.inl ⟨by rfl, ?_⟩) (by assumption) ?_
      rotate_left
      · (intro w hSw; (try dsimp only at hSw); go_simp) <;> with_reducible rfl
      try simp only [Act.put, List.getElem_toArray, List.getElem_cons_zero, List.getElem_cons_succ, List.setIfInBounds_toArray, List.set_cons_zero, List.set_cons_succ]
      refine wpAnyH_take (i := 5) (v := ?_) rfl (by kernel_rfl) (by kernel_rfl) (by kernel_rfl) (fun _ _ _ h => h) (Or.inl ⟨by rfl, ?_⟩) (by assumption) ?_
      rotate_left
      · (intro w hSw; (try dsimp only at hSw); go_simp) <;> with_reducible rfl
      try simp only [Act.put, List.getElem_toArray, List.getElem_cons_zero, List.getElem_cons_succ, List.setIfInBounds_toArray, List.set_cons_zero, List.set_cons_succ]
      refine wpAnyH_take (i := 6) (v := ?_) rfl (by kernel_rfl) (by kernel_rfl) (by kernel_rfl) (fun _ _ _ h => h) (Or.inl ⟨by rfl, ?_⟩) (by assumption) ?_
      rotate_left
      · (intro w hSw; (try dsimp only at hSw); go_simp) <;> with_reducible rfl
      try simp only [Act.put, List.getElem_toArray, List.getElem_cons_zero, List.getElem_cons_succ, List.setIfInBounds_toArray, List.set_cons_zero, List.set_cons_succ]
      refine wpAnyH_take (i := 7) (v := ?_) rfl (by kernel_rfl) (by kernel_rfl) (by kernel_rfl) (fun _ _ _ h => h) (Or.inl ⟨by rfl, ?_⟩) (by assumption) ?_
      rotate_left
      · (intro w hSw; (try dsimp only at hSw); go_simp) <;> with_reducible rfl
      try simp only [Act.put, List.getElem_toArray, List.getElem_cons_zero, List.getElem_cons_succ, List.setIfInBounds_toArray, List.set_cons_zero, List.set_cons_succ]
      refine wpAnyH_ready (rs := [8]) (by kernel_rfl) (by simp) ?_
      refine AllReadyH.cons rfl (fun K hK => ?_) AllReadyH.nil
      go_simp
      go_at_call 16
      with_reducible refine (Tryd.strconv_Itoa _ (by omega) (by omega) _ HT.out.drew.tab).mono ?_
      rintro e w2 ⟨rfl, kk, os, hw2⟩
      rw [itoa_of H0.out]
      have hb2 : Below w1.drew.heap.size w1.drew w2 := by rw [hw2]; exact Lib.below_grow _ _ (Nat.le_refl _) kk os
      clear hw2
      replace HB := Lib.hid (HB.out.drew.trans (hb2.mono HB.out.drew.size))
      replace HX := Lib.hid ((HX.out.up (Below.refl _ _).drew).up hb2)
      replace HT := Lib.hid (HT.out.drew.of hb2)
      clear hb2
      have hS2 := Lib.hid (And.intro HX.out.c0 (And.intro HX.out.c1 ((HT.out.nm3 j hj).trans (by rw [HN.out]))))
      go_wp2_with fail
      refine hK.out _ _ hS2.out (fun hHeld => ?_)
      clear hK K
      try simp only [Act.put, List.getElem_toArray, List.getElem_cons_zero, List.getElem_cons_succ, List.setIfInBounds_toArray, List.set_cons_zero, List.set_cons_succ]
      refine wpAnyH_take (i := 9) (v := ?_) rfl (by kernel_rfl) (by kernel_rfl) (by kernel_rfl) (fun _ _ _ h => h) (Or.inl ⟨by rfl, ?_⟩) (by assumption) ?_
      rotate_left
      · (intro w hSw; (try dsimp only at hSw); go_simp) <;> with_reducible rfl
      try simp only [Act.put, List.getElem_toArray, List.getElem_cons_zero, List.getElem_cons_succ, List.setIfInBounds_toArray, List.set_cons_zero, List.set_cons_succ]
      refine wpAnyH_take (i := 10) (v := ?_) rfl (by kernel_rfl) (by kernel_rfl) (by kernel_rfl) (fun _ _ _ h => h) (Or.inl ⟨by rfl, ?_⟩) (by assumption) ?_
      rotate_left
      · (intro w hSw; (try dsimp only at hSw); go_simp) <;> with_reducible rfl
      try simp only [Act.put, List.getElem_toArray, List.getElem_cons_zero, List.getElem_cons_succ, List.setIfInBounds_toArray, List.set_cons_zero, List.set_cons_succ]
      refine wpAnyH_take (i := 11) (v := ?_) rfl (by kernel_rfl) (by kernel_rfl) (by kernel_rfl) (fun _ _ _ h => h) (Or.inl ⟨by rfl, ?_⟩) (by assumption) ?_
      rotate_left
      · (intro w hSw; (try dsimp only at hSw); go_simp) <;> with_reducible rfl
      try simp only [Act.put, List.getElem_toArray, List.getElem_cons_zero, List.getElem_cons_succ, List.setIfInBounds_toArray, List.set_cons_zero, List.set_cons_succ]
      refine wpAnyH_done (by kernel_rfl) ?_ _
      go_wp2_with fail
      go_ret2
      refine ⟨HB.out, Or.inl ⟨HM.out, ?_⟩⟩
      rw [Int.toNat_natCast, Int.toNat_natCast, ← EE.out]
      rfl
  · simp only [hM, decide_false]
    have HM := Lib.hid hM
    clear hM
    go_wp2_with fail
    go_ret2
    exact ⟨HB.out, Or.inr ⟨HM.out, rfl⟩⟩
end Go.Proofs.YtkiehlkmbkgenaaDoor
