/- The document's answer of layer 10: an entry is reversed. -/
import Derived.Test.YtcdkgfjjgebcnaaDoorBookRef4
import Derived.Test.YtcdkgfjjgebcnaaDoorBookRef5
import Derived.Test.YtcdkgfjjgebcnaaDoorBookRef6
namespace Go.Proofs.YtcdkgfjjgebcnaaDoor
open Go Go.RowKit
set_option linter.unusedVariables false

theorem turn_ok {s : Bk} (hf : Fine s) {l : List Ln} (hl : l ∈ s.L) : OkL (turnL l) ∧ (∀ x ∈ l, in64 x.v ∧ x.v ≠ -9223372036854775808) := by
  constructor
  · intro x hx
    obtain ⟨y, hy, rfl⟩ := List.mem_map.1 hx
    have h1 := hf.v y (allL_mem hl hy)
    have h2 := hf.may y (allL_mem hl hy)
    have h3 := (hf.row l hl).2 y hy
    unfold MayK at h2
    unfold Ln.ok in64 at *
    simp only
    omega
  · intro x hx
    exact ⟨hf.v x (allL_mem hl hx), (hf.row l hl).2 x hx⟩

/-- what Reverse leaves -/
def revS (s : Bk) (n : Int) : Bk := if s.revN n = 0 then s.rev n else s

set_option maxRecDepth 100000 in
set_option maxHeartbeats 8000000 in
theorem refReverse10_any (M : Nat → Prop) (g : Nat) (s : Bk) (n : Int) (w : World) (hM : MBook M g s w) (hf : Fine s) (hn : in64 n) :
    Calls Tryd.prog 26 #[.pointer (some ⟨g, 0, none⟩), .int .i64 n] w fun e w' => e = .returned (.int .i64 (s.revN n : Int)) ∧ Only M w w' ∧ MBook (PlusK M w w') g (revS s n) w' := by
  have HM := Lib.hid hM
  have HF := Lib.hid hf
  have h4096 := hf.len
  have hwf := hf.wf
  unfold Bk.wf at hwf
  have HWF := Lib.hid hwf
  obtain ⟨aL, cL, aD, cD, h0, h1, -, -, -, hent, hdone⟩ := hM.head
  have HENT := Lib.hid hent
  have HDN := Lib.hid hdone
  obtain ⟨NL, hNL⟩ : ∃ NL, s.L.length = NL := ⟨_, rfl⟩
  have HNL := Lib.hid hNL
  rw [hwf, hNL] at h1
  rw [hNL] at h0 h4096
  have hsame : Only M w w ∧ MBook (PlusK M w w) g s w := ⟨Only.refl _ _, hM.mono (fun k hk => Or.inl hk) (fun k hk => hk.elim (hM.lt k) fun h => h.2)⟩
  have HSAME := Lib.hid hsame
  clear hM hf hwf hent hdone hNL hsame
  go_enter Tryd.func26, Tryd.ntmps26
  by_cases hr : n < 0 ∨ (NL : Int) ≤ n
  · have hrev : s.revN n = 4 := by unfold Bk.revN; rw [if_pos (by rw [HNL.out]; exact hr)]
    have hS : revS s n = s := by unfold revS; rw [hrev, if_neg (by omega)]
    rw [hrev, hS]
    have hcase : n < 0 ∨ (¬ n < 0 ∧ (NL : Int) ≤ n) := by omega
    clear hr hrev hS
    rcases hcase with t1 | ⟨t1, t2⟩
    all_goals
      go_wp2_with fail
      go_ret
      exact ⟨by simp, HSAME.out⟩
  · obtain ⟨j, rfl⟩ : ∃ j : Nat, n = (j : Int) := ⟨n.toNat, by omega⟩
    have hjl : j < NL := by omega
    have t1 : ¬ (j : Int) < 0 := by omega
    have t2 : ¬ (NL : Int) ≤ (j : Int) := by omega
    obtain ⟨b, hb⟩ : ∃ b, s.done[j]? = some b := ⟨_, List.getElem?_eq_getElem (by rw [HWF.out, HNL.out]; exact hjl)⟩
    obtain ⟨l, hl⟩ : ∃ l, s.L[j]? = some l := ⟨_, List.getElem?_eq_getElem (by rw [HNL.out]; exact hjl)⟩
    obtain ⟨qD, rfl, db, -⟩ := HDN.out j b hb
    obtain ⟨qL, al, cl, rfl, lb, hll, hlc, hlm, -⟩ := HENT.out j l hl
    have hgd : s.done.getD (j : Int).toNat false = b := by rw [Int.toNat_natCast]; simp [List.getD, hb]
    have hgl : s.L.getD (j : Int).toNat [] = l := by rw [Int.toNat_natCast]; simp [List.getD, hl]
    have HGL := Lib.hid hgl
    have HLL := Lib.hid hll
    have hmem : l ∈ s.L := List.mem_of_getElem? hl
    have HTO := Lib.hid (turn_ok HF.out hmem)
    have hl32 := (HF.out.row l hmem).1
    clear hr hb hl HENT HDN hll hgl hmem
    cases b with
    | true =>
      have hrev : s.revN (j : Int) = 5 := by unfold Bk.revN; rw [if_neg (by rw [HNL.out]; omega), hgd, if_pos rfl]
      have hS : revS s (j : Int) = s := by unfold revS; rw [hrev, if_neg (by omega)]
      rw [hrev, hS]
      clear hrev hS hgd
      go_wp2_with fail
      go_ret
      exact ⟨by simp, HSAME.out⟩
    | false =>
      have hrev : s.revN (j : Int) = s.mayN (turnL l) := by unfold Bk.revN; rw [if_neg (by rw [HNL.out]; omega), hgd, if_neg (by simp), HGL.out]
      have HREV := Lib.hid hrev
      clear hrev hgd
      go_wp2_with fail
      refine (refTurned10_any al l.length cl l _ HLL.out (by omega) HTO.out.2).mono ?_
      rintro e w1 ⟨v, rfl, ho, hb1⟩
      obtain ⟨at', ct, rfl, hlt, hct, hmt, hnt, -, -⟩ := ho.open
      have HB1 := Lib.hid hb1
      have HLT := Lib.hid hlt
      have HM1 := Lib.hid (HM.out.up hb1)
      have HNT := Lib.hid hnt
      have htl := turn_len l
      have HMT := Lib.hid hmt
      rw [htl] at HLT hct ⊢
      clear ho hb1 hlt hnt hmt htl
      go_wp2_with fail
      refine (refMay10_any M g s at' l.length ct (turnL l) _ HM1.out HF.out HLT.out HTO.out.1 (by omega) hct HMT.out).mono ?_
      rintro e w2 ⟨rfl, hb2⟩
      have HB2 := Lib.hid (HB1.out.trans (hb2.mono HB1.out.size))
      have HM2 := Lib.hid (HM1.out.up hb2)
      have HLT2 := Lib.hid (HLT.out.up hb2)
      clear hb2 HM1 HLT HB1
      obtain ⟨R, hR⟩ : ∃ R, s.mayN (turnL l) = R := ⟨_, rfl⟩
      rw [hR] at HREV ⊢
      by_cases hR0 : R = 0
      · subst hR0
        have hS : revS s (j : Int) = s.rev (j : Int) := by unfold revS; rw [HREV.out, if_pos rfl]
        have HS := Lib.hid hS
        have hlim := (mayN_zero hR).1
        have z0 : (((0 : Nat) : Int) == 0) = true := rfl
        have z1 : ((0 : Int) == 0) = true := rfl
        clear hS hR
        go_wp2_with fail
        refine (refPost10_any M g s at' l.length ct (turnL l) _ HM2.out HLT2.out HNT.out (by omega) (by rw [HWF.out]; omega) (by omega)).mono ?_
        rintro e w3 ⟨rfl, ho3, hM3⟩
        obtain ⟨aL3, cL3, aD3, cD3, p0, p1, -, hcd3, -, -, hd3⟩ := hM3.head
        have hdl : (s.post (turnL l)).done.length = NL + 1 := by simp [Bk.post, HWF.out, HNL.out]
        have hLl : (s.post (turnL l)).L.length = NL + 1 := by simp [Bk.post, HNL.out]
        obtain ⟨bj, hbj⟩ : ∃ bj, (s.post (turnL l)).done[j]? = some bj := ⟨_, List.getElem?_eq_getElem (by rw [hdl]; omega)⟩
        obtain ⟨q3, rfl, dj, fj⟩ := hd3 j bj hbj
        have HMK := Lib.hid (mbook_mark hM3 (j := j) (by rw [hdl]; omega) p1 true)
        rw [hdl] at p1 hcd3
        rw [hLl] at p0
        have HO3 := Lib.hid ho3
        have HDL := Lib.hid hdl
        have HLL3 := Lib.hid hLl
        clear hd3 hbj hM3 ho3 hdl hLl HLT2
        go_wp2_with fail
        generalize w3.setCell ⟨q3, j, none⟩ (.bool true) = w4 at HMK ⊢
        obtain ⟨aL4, cL4, aD4, cD4, r0, r1, -, hcd4, -, -, hd4⟩ := HMK.out.1.head
        have hdl4 : ((s.post (turnL l)).done.set j true).length = NL + 1 := by rw [List.length_set, HDL.out]
        obtain ⟨bk, hbk⟩ : ∃ bk, ((s.post (turnL l)).done.set j true)[NL]? = some bk := ⟨_, List.getElem?_eq_getElem (by rw [hdl4]; omega)⟩
        obtain ⟨q4, rfl, dk, fk⟩ := hd4 NL bk hbk
        have hmk2 := mbook_mark HMK.out.1 (j := NL) (by show NL < _; rw [hdl4]; omega) r1 true
        have HMK2 := Lib.hid hmk2
        have r0' : w4.cell? ⟨g, 0, none⟩ = some (.slice aL4 (NL + 1) cL4) := by rw [r0]; show some (Value.slice aL4 (s.post (turnL l)).L.length cL4) = _; rw [HLL3.out]
        have r1' : w4.cell? ⟨g, 1, none⟩ = some (.slice (some ⟨q4, 0, none⟩) (NL + 1) cD4) := by rw [r1]; show some (Value.slice _ ((s.post (turnL l)).done.set j true).length cD4) = _; rw [hdl4]
        have hcd4' : NL + 1 ≤ cD4 := by have := hcd4; show NL + 1 ≤ cD4; rw [← hdl4]; exact this
        have g0 : IntKind.i64.wrap (((NL + 1 : Nat) : Int) - 1) = (NL : Int) := by rw [IntWalk.i64_in _ (by omega)]; omega
        have g1 : ((NL + 1 : Nat) : Int) - 1 = (NL : Int) := by omega
        have g2 : (NL : Int) + 1 - 1 = (NL : Int) := by omega
        have g3 : IntKind.i64.wrap ((NL : Int) + 1 - 1) = (NL : Int) := by rw [IntWalk.i64_in _ (by omega)]; omega
        have g4 : IntKind.i64.wrap (NL : Int) = (NL : Int) := IntWalk.i64_in _ (by omega)
        clear hd4 hbk r0 r1 hcd4 hmk2 hdl4 p0 p1 dj fj
        go_wp2_with fail
        go_region
        all_goals
          go_wp2_with fail
          go_ret
          refine ⟨by rw [HREV.out]; rfl, ?_, ?_⟩
          · exact (Only.of_below HB2.out).trans (only_plus HO3.out (only_plus HMK.out.2 (HMK2.out.2.weak fun k hk => Or.inl hk)).drew)
          · rw [HS.out]
            have hfin := HMK2.out.1.drewN 1
            have e : s.rev (j : Int) = ⟨(s.post (turnL l)).L, ((s.post (turnL l)).done.set j true).set NL true⟩ := by
              unfold Bk.rev Bk.post
              rw [HGL.out, Int.toNat_natCast, HNL.out]
            rw [e]
            have s1 := HB2.out.size
            have s2 := HO3.out.size
            have s3 := HMK.out.2.size
            have s4 := HMK2.out.2.size
            refine hfin.mono (fun k hk => ?_) (fun k hk => ?_)
            · rcases hk with hk | hk
              · exact Or.inl hk
              · exact Or.inr ⟨by omega, by show k < (w4.setCell _ _).heap.size; omega⟩
            · rcases hk with hk | hk
              · have := HM.out.lt k hk
                show k < (w4.setCell _ _).heap.size
                omega
              · exact hk.2
      · have hS : revS s (j : Int) = s := by unfold revS; rw [HREV.out, if_neg hR0]
        have HS := Lib.hid hS
        have z0 : ((R : Int) == 0) = false := by simp; omega
        clear hS hR hR0
        go_wp2_with fail
        go_ret
        exact ⟨by rw [HREV.out]; rfl, Only.of_below HB2.out, by rw [HS.out]; exact HM2.out.mono (fun k hk => Or.inl hk) (fun k hk => hk.elim (HM2.out.lt k) fun h => h.2)⟩
end Go.Proofs.YtcdkgfjjgebcnaaDoor
