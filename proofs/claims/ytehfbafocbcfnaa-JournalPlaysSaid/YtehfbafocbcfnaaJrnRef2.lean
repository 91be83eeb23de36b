/- The contract of the document's answer of layer 8: the records that stand. -/
import Derived.Test.YtehfbafocbcfnaaRecs2
namespace Go.Proofs.Ytehfbafocbcfnaa
open Go Go.RowKit
set_option linter.unusedVariables false

def ScanTo (w : World) (bs : List Nat) (e : Ending) (w' : World) : Prop :=
  Below w.heap.size w w' ∧ ∃ v, e = .returned (.tuple #[v, .int .i64 (endOf bs : Int)]) ∧ OwnRecs w.heap.size v (recsOf bs) w'

theorem one_sl (a : Option Addr) (n c : Nat) : ∀ u ∈ [Value.slice a n c], u.oneCell' = true := fun u hu => by rw [List.mem_singleton.1 hu]; rfl

theorem refHead_s (k : Nat) (hk : k + 1 ≤ 1000000) (w : World) : Calls Try.prog 50 #[.int .i64 ((k : Int) + 1)] w (BytesTo w (headN (k + 1))) := by
  have h := refHead_any (k + 1) hk w
  rwa [show ((k + 1 : Nat) : Int) = (k : Int) + 1 by omega] at h

set_option linter.unusedSimpArgs false in
set_option maxRecDepth 100000 in
set_option maxHeartbeats 16000000 in
theorem refScan_any (a : Option Addr) (len cap : Nat) (bs : List Nat) (w : World) (hb : Cells w a len (bs.map b8)) (h256 : ∀ b ∈ bs, b < 256) (hlen : len ≤ 1000000) (hcap : len ≤ cap) :
    Calls Try.prog 44 #[.slice a len cap] w (ScanTo w bs) := by
  have hl : bs.length = len := by have := hb.1; rwa [List.length_map] at this
  have HL := Lib.hid hl
  have H256 := Lib.hid h256
  have HB := Lib.hid hb
  clear hl h256 hb
  go_enter Try.func44, Try.ntmps44
  go_wp2_with fail
  go_loopw [4, 5] (fun v i wr => ∃ (p m : Nat) (acc : List (List Nat)), i = .int .i64 (p : Int) ∧ p ≤ len ∧ len ≤ p + m ∧ acc.length ≤ p ∧ Hid (recsOf bs = acc ++ (scanN bs m p).1 ∧ endOf bs = (scanN bs m p).2) ∧ Hid (OwnRecs w.heap.size v acc wr) ∧ Hid (Below w.heap.size w wr)) (fun _ i _ => len - (RowKit.intOf i).toNat)
  case atStart => exact ⟨0, bs.length, [], rfl, by omega, by rw [HL.out]; omega, by simp, ⟨rfl, rfl⟩, OwnRecs.nil _ _, Below.refl _ _⟩
  case round =>
    obtain ⟨p, m, acc, rfl, hp, hfuel, hacc, hsc, hown, hbel⟩ := hrel
    have s1 : IntKind.i64.wrap ((p : Int) + 8) = (p : Int) + 8 := IntWalk.i64_in _ (by omega)
    by_cases hlt : p + 8 < len
    · obtain ⟨m, rfl⟩ : ∃ m', m = m' + 1 := ⟨m - 1, by omega⟩
      have t1 : (p : Int) + 8 < (len : Int) := by omega
      obtain ⟨sb, so, sc, hsl, hsc8⟩ := slice_piece (P := p) (M := 8) HB.out (by omega) hcap (by omega)
      obtain ⟨y, hy⟩ : ∃ y, (bs.drop p).take 8 = y := ⟨_, rfl⟩
      rw [hy] at hsc8
      have hylen : y.length = 8 := by have := hsc8.1; rwa [List.length_map] at this
      have hy256 : ∀ x ∈ y, x < 256 := fun x hx => H256.out x (List.mem_of_mem_drop (List.mem_of_mem_take (by rw [hy]; exact hx)))
      obtain ⟨sa, hsa⟩ : ∃ sa, sa = some (⟨sb, so, none⟩ : Addr) := ⟨_, rfl⟩
      rw [← hsa] at hsl hsc8
      have hsl8 : ∀ W', (Instr.slice 27 (.slice a len cap) (some (.int .i64 (p : Int))) (some (.int .i64 ((p : Int) + 8))) none).run Try.prog W' = .ok (.slice sa 8 sc) W' := hsl
      clear hsl
      have HT2' : Hid (∀ W', Below w.heap.size w W' → (convert 27 9 (.slice sa 8 sc)).run Try.prog W' = .ok (.string (strB y)) W') := fun W' h => by
        have := run_str_row (c := sc) (hsc8.upB h)
        exact this
      have HY := Lib.hid hy
      have HY2 := Lib.hid hy256
      have hN : ∃ N, min 1024 (len - (p + 8)) = N := ⟨_, rfl⟩
      obtain ⟨N, hN⟩ := hN
      have hN1 : N ≤ 1024 := by omega
      have hN2 : p + 8 + N ≤ len := by omega
      have hN3 : N < 1024 → p + 8 + N = len := by omega
      have HF : Hid (foundN bs p = fndN bs p N) := by show _ = _; unfold foundN; rw [HL.out, hN]
      clear hsc8 hsa hy hy256 hN
      go_wp2_with fail
      obtain ⟨W8, rfl⟩ : ∃ W8, W8 = wr := ⟨_, rfl⟩
      go_loopw [6, 7] (fun f i wi => ∃ (k : Nat), k ≤ N ∧ i = .int .i64 ((k : Int) + 1) ∧ f = .int .i64 ((fndN bs p k : Nat) : Int) ∧ Hid (Below W8.heap.size W8 wi)) (fun _ i _ => 1030 - (RowKit.intOf i).toNat)
      case atStart => exact ⟨0, by omega, by go_num, rfl, Below.refl _ _⟩
      case round =>
        obtain ⟨k, hk, rfl, rfl, hbi⟩ := hrel
        have hfl := fndN_le bs p k
        obtain ⟨f, hf⟩ : ∃ f, fndN bs p k = f := ⟨_, rfl⟩
        rw [hf] at hfl ⊢
        have HFK := Lib.hid hf
        clear hf
        have s2 : IntKind.i64.wrap ((p : Int) + 8 + ((k : Int) + 1)) = (p : Int) + 8 + ((k : Int) + 1) := IntWalk.i64_in _ (by omega)
        have s3 : IntKind.i64.wrap ((k : Int) + 1 + 1) = (k : Int) + 1 + 1 := IntWalk.i64_in _ (by omega)
        by_cases hkN : k < N
        · have t2 : (k : Int) + 1 ≤ 1024 := by omega
          have t3 : (p : Int) + 8 + ((k : Int) + 1) ≤ (len : Int) := by omega
          have HW : Hid (Below w.heap.size w wr) := hbel.out.trans (hbi.out.mono hbel.out.size)
          have HWI : Hid (Below W8.heap.size W8 wr) := hbi.out
          have HT2 : Hid (∀ W', Below w.heap.size w W' → (convert 27 9 (.slice sa 8 sc)).run Try.prog W' = .ok (.string (strB y)) W') := HT2'.out

          by_cases heq : headN (k + 1) = y
          · have hst : ((strB (headN (k + 1))).toList == (strB y).toList) = true := by rw [heq]; exact strB_same _
            have HFN : Hid (fndN bs p (k + 1) = k + 1) := by show _ = _; rw [fnd_step, HY.out, if_pos heq]
            clear heq
            go_wp2_with fail
            refine wp_region_held_drew (S := fun w' => (convert 27 9 (.slice sa 8 sc)).run Try.prog w' = .ok (.string (strB y)) w') (by kernel_rfl) (HT2.out _ (Below.drew HW.out)) (fun hHeld => ?_)
            refine wpAnyH_take (i := 0) (v := ?_) rfl (by kernel_rfl) (by kernel_rfl) (by kernel_rfl) (fun _ _ _ h => h) (Or.inl ⟨by rfl, ?_⟩) (by assumption) ?_
            rotate_left
            · (intro w hSw; (try dsimp only at hSw); go_simp) <;> with_reducible rfl
            try simp only [Act.put, List.getElem_toArray, List.getElem_cons_zero, List.getElem_cons_succ, List.setIfInBounds_toArray, List.set_cons_zero, List.set_cons_succ]
            refine wpAnyH_take (i := 3) (v := ?_) rfl (by kernel_rfl) (by kernel_rfl) (by kernel_rfl) (fun _ _ _ h => h) (Or.inl ⟨by rfl, ?_⟩) (by assumption) ?_
            rotate_left
            · (intro w hSw; (try dsimp only at hSw); go_simp) <;> with_reducible rfl
            try simp only [Act.put, List.getElem_toArray, List.getElem_cons_zero, List.getElem_cons_succ, List.setIfInBounds_toArray, List.set_cons_zero, List.set_cons_succ]
            refine wpAnyH_take (i := 4) (v := ?_) rfl (by kernel_rfl) (by kernel_rfl) (by kernel_rfl) (fun _ _ _ h => h) (Or.inl ⟨by rfl, ?_⟩) (by assumption) ?_
            rotate_left
            · (intro w hSw; (try dsimp only at hSw); go_simp) <;> with_reducible rfl
            try simp only [Act.put, List.getElem_toArray, List.getElem_cons_zero, List.getElem_cons_succ, List.setIfInBounds_toArray, List.set_cons_zero, List.set_cons_succ]
            refine wpAnyH_take (i := 5) (v := ?_) rfl (by kernel_rfl) (by kernel_rfl) (by kernel_rfl) (fun _ _ _ h => h) (Or.inl ⟨by rfl, ?_⟩) (by assumption) ?_
            rotate_left
            · (intro w hSw; (try dsimp only at hSw); go_simp) <;> with_reducible rfl
            try simp only [Act.put, List.getElem_toArray, List.getElem_cons_zero, List.getElem_cons_succ, List.setIfInBounds_toArray, List.set_cons_zero, List.set_cons_succ]
            refine wpAnyH_take (i := 6) (v := ?_) rfl (by kernel_rfl) (by kernel_rfl) (by kernel_rfl) (fun _ _ _ h => h) (Or.inl ⟨by rfl, ?_⟩) (by assumption) ?_
            rotate_left
            · (intro w hSw; (try dsimp only at hSw); go_simp) <;> with_reducible rfl
            try simp only [Act.put, List.getElem_toArray, List.getElem_cons_zero, List.getElem_cons_succ, List.setIfInBounds_toArray, List.set_cons_zero, List.set_cons_succ]
            refine wpAnyH_take (i := 7) (v := ?_) rfl (by kernel_rfl) (by kernel_rfl) (by kernel_rfl) (fun _ _ _ h => h) (Or.inl ⟨by rfl, ?_⟩) (by assumption) ?_
            rotate_left
            · (intro w hSw; (try dsimp only at hSw); go_simp) <;> with_reducible rfl
            try simp only [Act.put, List.getElem_toArray, List.getElem_cons_zero, List.getElem_cons_succ, List.setIfInBounds_toArray, List.set_cons_zero, List.set_cons_succ]
            refine wpAnyH_take (i := 8) (v := ?_) rfl (by kernel_rfl) (by kernel_rfl) (by kernel_rfl) (fun _ _ _ h => h) (Or.inl ⟨by rfl, ?_⟩) (by assumption) ?_
            rotate_left
            · (intro w hSw; (try dsimp only at hSw); go_simp) <;> with_reducible rfl
            try simp only [Act.put, List.getElem_toArray, List.getElem_cons_zero, List.getElem_cons_succ, List.setIfInBounds_toArray, List.set_cons_zero, List.set_cons_succ]
            refine wpAnyH_ready (rs := [1]) (by kernel_rfl) (by simp) ?_
            refine AllReadyH.cons rfl (fun K hK => ?_) AllReadyH.nil
            go_simp
            go_at_call 50
            with_reducible refine (refHead_s k (by omega) _).mono ?_
            rintro e w5 ⟨v5, rfl, ho5, hb5⟩
            obtain ⟨pa, pc, rfl, hcl5, -, -, -⟩ := own_bytes ho5
            have rs5 : (convert 27 9 (.slice pa 8 pc)).run Try.prog w5 = .ok (.string (strB (headN (k + 1)))) w5 := run_str_row hcl5
            have HW9 := Lib.hid ((Below.drew HWI.out).trans (hb5.mono (Below.drew HWI.out).size))
            have HW := Lib.hid ((Below.drew HW.out).trans (hb5.mono (Below.drew HW.out).size))
            clear hb5 ho5 hcl5
            rw [headN_len]
            go_wp2_with fail
            refine hK.out _ _ (HT2.out _ HW.out) (fun hHeld => ?_)
            clear hK K
            try simp only [Act.put, List.getElem_toArray, List.getElem_cons_zero, List.getElem_cons_succ, List.setIfInBounds_toArray, List.set_cons_zero, List.set_cons_succ]
            refine wpAnyH_ready (rs := [2]) (by kernel_rfl) (by simp) ?_
            refine AllReadyH.cons rfl (fun K hK => ?_) AllReadyH.nil
            go_simp
            skip
            refine hK.out _ _ (HT2.out _ HW.out) (fun hHeld => ?_)
            clear hK K
            try simp only [Act.put, List.getElem_toArray, List.getElem_cons_zero, List.getElem_cons_succ, List.setIfInBounds_toArray, List.set_cons_zero, List.set_cons_succ]
            refine wpAnyH_take (i := 9) (v := ?_) rfl (by kernel_rfl) (by kernel_rfl) (by kernel_rfl) (fun _ _ _ h => h) (Or.inl ⟨by rfl, ?_⟩) (by assumption) ?_
            rotate_left
            · (intro w hSw; (try dsimp only at hSw); go_simp) <;> with_reducible rfl
            try simp only [Act.put, List.getElem_toArray, List.getElem_cons_zero, List.getElem_cons_succ, List.setIfInBounds_toArray, List.set_cons_zero, List.set_cons_succ]
            refine wpAnyH_done (by kernel_rfl) ?_ _
            go_wp2_with fail
            go_roundw
            case rel => exact ⟨k + 1, by omega, by go_num, by rw [HFN.out]; go_num, by have h := HW9.out; exact h⟩
            case measure => simp [RowKit.intOf]; omega
          · have hst : ((strB (headN (k + 1))).toList == (strB y).toList) = false := strB_other (headN_256 _) HY2.out heq
            have HFN : Hid (fndN bs p (k + 1) = fndN bs p k) := by show _ = _; rw [fnd_step, HY.out, if_neg heq]
            clear heq
            go_wp2_with fail
            refine wp_region_held_drew (S := fun w' => (convert 27 9 (.slice sa 8 sc)).run Try.prog w' = .ok (.string (strB y)) w') (by kernel_rfl) (HT2.out _ (Below.drew HW.out)) (fun hHeld => ?_)
            refine wpAnyH_take (i := 0) (v := ?_) rfl (by kernel_rfl) (by kernel_rfl) (by kernel_rfl) (fun _ _ _ h => h) (Or.inl ⟨by rfl, ?_⟩) (by assumption) ?_
            rotate_left
            · (intro w hSw; (try dsimp only at hSw); go_simp) <;> with_reducible rfl
            try simp only [Act.put, List.getElem_toArray, List.getElem_cons_zero, List.getElem_cons_succ, List.setIfInBounds_toArray, List.set_cons_zero, List.set_cons_succ]
            refine wpAnyH_take (i := 3) (v := ?_) rfl (by kernel_rfl) (by kernel_rfl) (by kernel_rfl) (fun _ _ _ h => h) (Or.inl ⟨by rfl, ?_⟩) (by assumption) ?_
            rotate_left
            · (intro w hSw; (try dsimp only at hSw); go_simp) <;> with_reducible rfl
            try simp only [Act.put, List.getElem_toArray, List.getElem_cons_zero, List.getElem_cons_succ, List.setIfInBounds_toArray, List.set_cons_zero, List.set_cons_succ]
            refine wpAnyH_take (i := 4) (v := ?_) rfl (by kernel_rfl) (by kernel_rfl) (by kernel_rfl) (fun _ _ _ h => h) (Or.inl ⟨by rfl, ?_⟩) (by assumption) ?_
            rotate_left
            · (intro w hSw; (try dsimp only at hSw); go_simp) <;> with_reducible rfl
            try simp only [Act.put, List.getElem_toArray, List.getElem_cons_zero, List.getElem_cons_succ, List.setIfInBounds_toArray, List.set_cons_zero, List.set_cons_succ]
            refine wpAnyH_take (i := 5) (v := ?_) rfl (by kernel_rfl) (by kernel_rfl) (by kernel_rfl) (fun _ _ _ h => h) (Or.inl ⟨by rfl, ?_⟩) (by assumption) ?_
            rotate_left
            · (intro w hSw; (try dsimp only at hSw); go_simp) <;> with_reducible rfl
            try simp only [Act.put, List.getElem_toArray, List.getElem_cons_zero, List.getElem_cons_succ, List.setIfInBounds_toArray, List.set_cons_zero, List.set_cons_succ]
            refine wpAnyH_take (i := 6) (v := ?_) rfl (by kernel_rfl) (by kernel_rfl) (by kernel_rfl) (fun _ _ _ h => h) (Or.inl ⟨by rfl, ?_⟩) (by assumption) ?_
            rotate_left
            · (intro w hSw; (try dsimp only at hSw); go_simp) <;> with_reducible rfl
            try simp only [Act.put, List.getElem_toArray, List.getElem_cons_zero, List.getElem_cons_succ, List.setIfInBounds_toArray, List.set_cons_zero, List.set_cons_succ]
            refine wpAnyH_take (i := 7) (v := ?_) rfl (by kernel_rfl) (by kernel_rfl) (by kernel_rfl) (fun _ _ _ h => h) (Or.inl ⟨by rfl, ?_⟩) (by assumption) ?_
            rotate_left
            · (intro w hSw; (try dsimp only at hSw); go_simp) <;> with_reducible rfl
            try simp only [Act.put, List.getElem_toArray, List.getElem_cons_zero, List.getElem_cons_succ, List.setIfInBounds_toArray, List.set_cons_zero, List.set_cons_succ]
            refine wpAnyH_take (i := 8) (v := ?_) rfl (by kernel_rfl) (by kernel_rfl) (by kernel_rfl) (fun _ _ _ h => h) (Or.inl ⟨by rfl, ?_⟩) (by assumption) ?_
            rotate_left
            · (intro w hSw; (try dsimp only at hSw); go_simp) <;> with_reducible rfl
            try simp only [Act.put, List.getElem_toArray, List.getElem_cons_zero, List.getElem_cons_succ, List.setIfInBounds_toArray, List.set_cons_zero, List.set_cons_succ]
            refine wpAnyH_ready (rs := [1]) (by kernel_rfl) (by simp) ?_
            refine AllReadyH.cons rfl (fun K hK => ?_) AllReadyH.nil
            go_simp
            go_at_call 50
            with_reducible refine (refHead_s k (by omega) _).mono ?_
            rintro e w5 ⟨v5, rfl, ho5, hb5⟩
            obtain ⟨pa, pc, rfl, hcl5, -, -, -⟩ := own_bytes ho5
            have rs5 : (convert 27 9 (.slice pa 8 pc)).run Try.prog w5 = .ok (.string (strB (headN (k + 1)))) w5 := run_str_row hcl5
            have HW9 := Lib.hid ((Below.drew HWI.out).trans (hb5.mono (Below.drew HWI.out).size))
            have HW := Lib.hid ((Below.drew HW.out).trans (hb5.mono (Below.drew HW.out).size))
            clear hb5 ho5 hcl5
            rw [headN_len]
            go_wp2_with fail
            refine hK.out _ _ (HT2.out _ HW.out) (fun hHeld => ?_)
            clear hK K
            try simp only [Act.put, List.getElem_toArray, List.getElem_cons_zero, List.getElem_cons_succ, List.setIfInBounds_toArray, List.set_cons_zero, List.set_cons_succ]
            refine wpAnyH_ready (rs := [2]) (by kernel_rfl) (by simp) ?_
            refine AllReadyH.cons rfl (fun K hK => ?_) AllReadyH.nil
            go_simp
            skip
            refine hK.out _ _ (HT2.out _ HW.out) (fun hHeld => ?_)
            clear hK K
            try simp only [Act.put, List.getElem_toArray, List.getElem_cons_zero, List.getElem_cons_succ, List.setIfInBounds_toArray, List.set_cons_zero, List.set_cons_succ]
            refine wpAnyH_take (i := 9) (v := ?_) rfl (by kernel_rfl) (by kernel_rfl) (by kernel_rfl) (fun _ _ _ h => h) (Or.inl ⟨by rfl, ?_⟩) (by assumption) ?_
            rotate_left
            · (intro w hSw; (try dsimp only at hSw); go_simp) <;> with_reducible rfl
            try simp only [Act.put, List.getElem_toArray, List.getElem_cons_zero, List.getElem_cons_succ, List.setIfInBounds_toArray, List.set_cons_zero, List.set_cons_succ]
            refine wpAnyH_done (by kernel_rfl) ?_ _
            go_wp2_with fail
            go_roundw
            case rel => exact ⟨k + 1, by omega, by go_num, by rw [HFN.out, HFK.out], by have h := HW9.out; exact h⟩
            case measure => simp [RowKit.intOf]; omega
        · obtain rfl : k = N := by omega
          have t4 : ((k : Int) + 1 ≤ 1024 ∧ ¬ (p : Int) + 8 + ((k : Int) + 1) ≤ (len : Int)) ∨ ¬ (k : Int) + 1 ≤ 1024 := by omega
          have HFND : Hid (foundN bs p = f) := by show _ = _; rw [HF.out, HFK.out]
          have hbw : Below w.heap.size w wr := hbel.out.trans (hbi.out.mono hbel.out.size)
          have HO := Lib.hid (hown.out.up hbi.out)
          have HBW := Lib.hid hbw
          have hsz := hbw.size
          clear hbw
          by_cases hf0 : f = 0
          · subst hf0
            have HR : Hid (recsOf bs = acc ∧ endOf bs = p) := by
              show _ ∧ _
              have h1 := hsc.out
              unfold scanN at h1
              rw [HFND.out, if_neg (by simp)] at h1
              simpa using h1
            rcases t4 with ⟨t4, t5⟩ | t4
            all_goals
              go_wp2_with fail
              go_ret2
              exact ⟨HBW.out, _, by rw [HR.out.2]; rfl, by rw [HR.out.1]; exact HO.out⟩
          · have t6 : ¬ (f : Int) = 0 := by omega
            obtain ⟨z, hz⟩ : ∃ z, (bs.drop (p + 8)).take f = z := ⟨_, rfl⟩
            have hfb := foundN_le bs p
            rw [HFND.out, HL.out] at hfb
            have HR : Hid (recsOf bs = (acc ++ [z]) ++ (scanN bs m (p + 8 + f)).1 ∧ endOf bs = (scanN bs m (p + 8 + f)).2) := by
              have h1 := hsc.out
              unfold scanN at h1
              rw [HFND.out, HL.out, if_pos ⟨hlt, hf0⟩, hz] at h1
              rw [List.append_assoc]
              exact h1
            obtain ⟨zb, zo, zc, hzl, hzc⟩ := slice_piece (P := p + 8) (M := f) HB.out (by omega) hcap (by omega)
            rw [hz] at hzc
            have hzlen : z.length = f := by have := hzc.1; rwa [List.length_map] at this
            have hzl8 : ∀ W', (Instr.slice 27 (.slice a len cap) (some (.int .i64 ((p : Int) + 8))) (some (.int .i64 ((p : Int) + 8 + (f : Int)))) none).run Try.prog W' = .ok (.slice (some ⟨zb, zo, none⟩) f zc) W' := hzl
            have HZC : Hid (∀ W, Below w.heap.size w W → Cells W (some ⟨zb, zo, none⟩) f (z.map b8)) := fun W h => hzc.upB h
            have HZL := Lib.hid hzlen
            obtain ⟨vs, hv1, hv2⟩ := HO.out
            have HV1 := Lib.hid hv1
            have HV2 := Lib.hid hv2
            have s5 : IntKind.i64.wrap ((p : Int) + 8 + (f : Int)) = (p : Int) + 8 + (f : Int) := IntWalk.i64_in _ (by omega)
            have hbz : Below w.heap.size w (wr.alloc (Obj.cells #[] 5)) := HBW.out.alloc hsz _
            have HBZ := Lib.hid hbz
            have HO2 : Hid ((wr.alloc (Obj.cells #[] 5)).ownsRow w.heap.size 5 1 (.slice (some ⟨wr.heap.size, 0, none⟩) 0 0) 0 (([] : List Nat).map b8)) := World.ownsRow_lit (base := w.heap.size) (e := 5) (size := 1) wr #[] 0 hsz (by decide) rfl
            have M2 : Hid (0 + f ≤ maxLen) := by show 0 + f ≤ maxLen; simp only [maxLen]; omega
            have M6 : Hid (0 < f) := by show 0 < f; omega
            have M3 : Hid (acc.length + 1 ≤ maxLen) := by show acc.length + 1 ≤ maxLen; simp only [maxLen]; omega
            have M4 : Hid ((0 + f) * 1 ≤ 140737488355328) := by show (0 + f) * 1 ≤ 140737488355328; omega
            have M5 : Hid ((acc.length + 1) * 24 ≤ 140737488355328) := by show (acc.length + 1) * 24 ≤ 140737488355328; omega
            clear hz hzc hzl hzlen hv1 hv2 hbz hsc hown hfb
            rcases t4 with ⟨t4, t5⟩ | t4
            all_goals
              go_wp2_with (first
                | (at_builtin; refine wpList_append_cells rfl (.tmp 42) (.tmp 50) 27 rfl w.heap.size Tu8 _ 0 (([] : List Nat).map b8) rfl HO2.out (some ⟨zb, zo, none⟩) f zc (z.map b8) rfl (fun h => by cases h) (HZC.out _ HBZ.out) (b8_one z) M2.out M4.out (Nat.le_trans hsz (by simp)) ?_; intro v1 w1 o1 q1 r1 l1; rw [Nat.zero_add] at o1; obtain ⟨g1, cp1, rfl, hg1, hg2⟩ := o1.form M6.out; have hB1 := Lib.hid (((Below.refl wr.heap.size wr).alloc (Nat.le_refl _) (Obj.cells #[] 5)).grown q1 (by simp) (fun z hz => by cases hz; exact Nat.le_refl _)); have hR1 := Lib.hid ((ownsRow_upB HV1.out hB1.out).alloc (Obj.cells #[.slice (some ⟨g1, 0, none⟩) f cp1] 27)); have hZ1 : w.heap.size ≤ w1.heap.size := Nat.le_trans hsz hB1.out.size)
                | (at_builtin; refine wpList_append_cells rfl (.tmp 41) (.tmp 52) 53 rfl w.heap.size Tsb _ acc.length vs rfl hR1.out (some ⟨_, 0, none⟩) 1 1 [.slice (some ⟨g1, 0, none⟩) f cp1] rfl (fun h => by cases h) (one_new _ _ _) (one_sl _ _ _) M3.out M5.out (Nat.le_trans hZ1 (by simp)) ?_; intro v2 w2 o2 q2 r2 l2))
              have hbw1 : Below w.heap.size w w1 := HBW.out.trans (hB1.out.mono hsz)
              have hown2 : OwnRecs w.heap.size v2 (acc ++ [z]) w2 := by
                refine OwnRecs.push hR1.out (fun j hj => ⟨(ownsRow_upB (HV2.out j hj).1 hB1.out).alloc _, (HV2.out j hj).2⟩) (by rw [HZL.out]; exact o1.alloc _) (fun g hg => ?_) o2 q2 l2
                intro e
                have h1 := (HV1.out.lt g e).2
                rcases l1 with l1 | l1
                · have h3 : some wr.heap.size = some g := l1.symm.trans hg
                  cases h3
                  exact absurd h1 (Nat.lt_irrefl _)
                · have h3 : some (wr.heap.size + 1) = some g := by rw [← World.size_alloc wr (Obj.cells #[] 5)]; exact l1.symm.trans hg
                  cases h3
                  omega
              refine ⟨⟨p + 8 + f, m, acc ++ [z], by go_num, by omega, by omega, by rw [List.length_append, List.length_singleton]; omega, HR.out, hown2, ?_⟩, by simp [RowKit.intOf]; omega⟩
              exact (hbw1.alloc hZ1 _).grown q2 (Nat.le_trans hZ1 (by simp)) (fun z hz => (HV1.out.lt z hz).1)
    · have t1 : ¬ (p : Int) + 8 < (len : Int) := by omega
      have HR : Hid (recsOf bs = acc ∧ endOf bs = p) := by
        show _ ∧ _
        have h1 := hsc.out
        cases m with
        | zero => simpa [scanN] using h1
        | succ m =>
          unfold scanN at h1
          rw [HL.out, if_neg (by omega)] at h1
          simpa using h1
      go_wp2_with fail
      go_ret2
      exact ⟨hbel.out, _, by rw [HR.out.2]; rfl, by rw [HR.out.1]; exact hown.out⟩
end Go.Proofs.Ytehfbafocbcfnaa
