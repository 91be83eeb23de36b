/- The landed package chart: Parse; all its contracts. -/
import Derived.Test.YtkiehlkmbkgenaaDoorChart3
import Derived.Test.YtkiehlkmbkgenaaDoorOnly
import Derived.Test.YtkiehlkmbkgenaaDoorChartAcc
import Derived.Test.YtkiehlkmbkgenaaDoorChartRef4
namespace Go.Proofs.YtkiehlkmbkgenaaDoor
open Go Go.RowKit
set_option linter.unusedVariables false

/-- what strconv.Atoi tells -/
def AtoiTo (w : World) (D : List UInt8) (e : Ending) (w' : World) : Prop :=
  Below w.heap.size w w' ∧ ((∃ v : Int, i64 v ∧ Lib.atoiAll D = .ok v ∧ e = .returned (.tuple #[.int .i64 v, .nilIface])) ∨
    ((∀ v, Lib.atoiAll D ≠ .ok v) ∧ ∃ (x : Int) (N : Nat), e = .returned (.tuple #[.int .i64 x, .iface 62 (.pointer (some ⟨N, 0, none⟩))])))
theorem atoi_any (D : List UInt8) (hD : D.length ≤ 1000) (w : World) (T : Kin w) : Calls Tryd.prog 21 #[.string (strL D)] w (AtoiTo w D) := by
  have hs := strL_size D
  cases h : Lib.atoiAll D with
  | ok v =>
    refine (Tryd.strconv_Atoi_ok (strL D) (by omega) v h w).mono ?_
    rintro e w' ⟨rfl, hw⟩
    have hb : Below w.heap.size w w' := by
      rcases hw with rfl | ⟨t, rfl⟩
      · exact Below.refl _ _
      · exact Lib.bytesWorld_below _ _ _
    exact ⟨hb, Or.inl ⟨v, Lib.atoiAll_bounds h, h, rfl⟩⟩
  | «syntax» =>
    obtain ⟨ev, hv, hev⟩ := T.syn
    refine (Tryd.strconv_Atoi_syntax (strL D) (by omega) h ev w hv hev).mono ?_
    rintro e w' ⟨N, rfl, _, _, hb⟩
    exact ⟨hb, Or.inr ⟨fun v => by rw [h]; simp, _, N, rfl⟩⟩
  | range =>
    obtain ⟨ev, hv, hev⟩ := T.rng
    refine (Tryd.strconv_Atoi_range (strL D) (by omega) h ev w hv hev).mono ?_
    rintro e w' ⟨N, rfl, _, _, hb⟩
    exact ⟨hb, Or.inr ⟨fun v => by rw [h]; simp, _, N, rfl⟩⟩

theorem num_is {N : List UInt8} {r k : Nat} (h : (1 ≤ r ∧ r ≤ 12 ∧ nam r = N) ∨ (r = 0 ∧ ∀ i : Nat, 1 ≤ i → i ≤ 12 → nam i ≠ N)) (h1 : 1 ≤ k) (h2 : k ≤ 12) (e : nam k = N) : r = k := by
  rcases h with ⟨g1, g2, g3⟩ | ⟨_, g⟩
  · have := nam_inj ⟨r, by omega⟩ ⟨k, by omega⟩ g1 h1 (by simp only; rw [g3, e])
    simpa using this
  · exact absurd e (g k h1 h2)
theorem is_low {L N D : List UInt8} {r k o : Nat} (hc : Lib.cut L [46] = (N, D, false)) (h : (1 ≤ r ∧ r ≤ 12 ∧ nam r = N) ∨ (r = 0 ∧ ∀ i : Nat, 1 ≤ i → i ≤ 12 → nam i ≠ N)) (hm : MayK k o) (e : L = nameL k o) : r = k ∧ o = 0 := by
  by_cases h0 : o = 0
  · rw [e, cut_low hm h0] at hc
    exact ⟨num_is h (by unfold MayK at hm; omega) (by unfold MayK at hm; omega) (congrArg (·.1) hc), h0⟩
  · rw [e, cut_high hm h0] at hc
    have := congrArg (·.2.2) hc
    simp at this
theorem is_high {L N D : List UInt8} {r k o : Nat} (hc : Lib.cut L [46] = (N, D, true)) (h : (1 ≤ r ∧ r ≤ 12 ∧ nam r = N) ∨ (r = 0 ∧ ∀ i : Nat, 1 ≤ i → i ≤ 12 → nam i ≠ N)) (hm : MayK k o) (e : L = nameL k o) : r = k ∧ Lib.atoiAll D = .ok (o : Int) := by
  by_cases h0 : o = 0
  · rw [e, cut_low hm h0] at hc
    have := congrArg (·.2.2) hc
    simp at this
  · rw [e, cut_high hm h0] at hc
    have hD : decL o = D := congrArg (·.2.1) hc
    exact ⟨num_is h (by unfold MayK at hm; omega) (by unfold MayK at hm; omega) (congrArg (·.1) hc), by rw [← hD]; exact atoi_dec h0 (by unfold MayK at hm; omega)⟩

/-- the result's block and the account's, in a later world -/
structure ParAt (w0 : World) (C : Nat) (k o : Int) (w : World) : Prop where
  r : Row w0.heap.size 23 [.int .i64 0, .int .i64 0] w
  a : Row C 23 [.int .i64 k, .int .i64 o] w
  lt : w0.heap.size < C
  base : Below w0.heap.size w0 w
section
variable {w0 w1 w2 w : World} {C : Nat} {k o : Int}
theorem ParAt.up (h : ParAt w0 C k o w1) (hb : Below w1.heap.size w1 w2) : ParAt w0 C k o w2 := ⟨h.r.up hb, h.a.up hb, h.lt, h.base.trans (hb.mono h.base.size)⟩
theorem ParAt.s (h : ParAt w0 C k o w) : w.cell? ⟨C, 0, none⟩ = some (.int .i64 k) ∧ w.cell? ⟨C, 1, none⟩ = some (.int .i64 o) ∧ w.frozen? ⟨C, 0, none⟩ = false ∧ w.frozen? ⟨C, 1, none⟩ = false :=
  ⟨h.a.cell (by simp), h.a.cell (by simp), h.a.frozen 0, h.a.frozen 1⟩
theorem ParAt.res (h : ParAt w0 C k o w) : w.cell? ⟨w0.heap.size, 0, none⟩ = some (.int .i64 0) ∧ w.cell? ⟨w0.heap.size, 1, none⟩ = some (.int .i64 0) ∧ w.frozen? ⟨w0.heap.size, 0, none⟩ = false ∧ w.frozen? ⟨w0.heap.size, 1, none⟩ = false :=
  ⟨h.r.cell (by simp), h.r.cell (by simp), h.r.frozen 0, h.r.frozen 1⟩
theorem ParAt.put (h : ParAt w0 C k o w) (v : Int) : ParAt w0 C k v (w.setCell ⟨C, 1, none⟩ (.int .i64 v)) :=
  ⟨h.r.setOther (p := ⟨C, 1, none⟩) (by have := h.lt; simp; omega) _, h.a.set 1 _, h.lt, h.base.setCell (by have := h.lt; simp; omega) _⟩
end

set_option linter.unusedSimpArgs false in
set_option maxRecDepth 100000 in
set_option maxHeartbeats 8000000 in
theorem parse_any (s : ByteArray) (w : World) (T : Kin w) (hs : s.size ≤ 1000) : Calls Tryd.prog 13 #[.string s] w (AccTo w s) := by
  obtain ⟨L, rfl⟩ : ∃ L, s = strL L := ⟨s.toList, (strL_of s).symm⟩
  rw [strL_size] at hs
  have HL := Lib.hid hs
  have b0 := build_acc0
  have b1 := build_acc1
  have HB0 := Lib.hid ((Below.refl w.heap.size w).alloc (Nat.le_refl _) (Obj.cells #[.int .i64 0, .int .i64 0] 23))
  have HR0 := Lib.hid (Row.new w [.int .i64 0, .int .i64 0] 23)
  have HT := Lib.hid (T.of HB0.out)
  have HK := Lib.hid T
  clear hs T
  go_enter Tryd.func13, Tryd.ntmps13
  go_wp2_with fail
  obtain ⟨m, hm⟩ := HT.out.max
  refine (Tryd.strings_Cut (strL L) ⟨#[46]⟩ m _ (by rw [strL_size]; have := HL.out; omega) hm).mono ?_
  rintro e w1 ⟨rfl, dn, hw1⟩
  have hb1 := below_drewN (Below.refl (w.alloc (Obj.cells #[.int .i64 0, .int .i64 0] 23)).heap.size (w.alloc (Obj.cells #[.int .i64 0, .int .i64 0] 23))) dn
  rw [← hw1] at hb1
  clear hw1 hm
  replace HT := Lib.hid (HT.out.of hb1)
  have HR1 := Lib.hid (HR0.out.up hb1)
  have HB1 := Lib.hid (HB0.out.trans (hb1.mono HB0.out.size))
  have hlt1 : w.heap.size < w1.heap.size := by have := hb1.size; simp at this; omega
  have HLT := Lib.hid hlt1
  clear hb1 hlt1
  rw [show (strL L).data.toList = L from by simp [strL], show (⟨#[46]⟩ : ByteArray).data.toList = [46] from rfl]
  obtain ⟨N, D, dt, hcut⟩ : ∃ N D dt, Lib.cut L [46] = (N, D, dt) := ⟨_, _, _, rfl⟩
  rw [hcut, show (⟨N.toArray⟩ : ByteArray) = strL N from rfl, show (⟨D.toArray⟩ : ByteArray) = strL D from rfl]
  have HC := Lib.hid hcut
  have hD : D.length ≤ 1000 := by
    have h := congrArg (·.2.1.length) hcut
    have := HL.out
    simp only [Lib.cut] at h
    split at h <;> simp at h <;> omega
  have HD := Lib.hid hD
  clear hcut hD
  go_wp2_with fail
  refine (numbered_any N _ HT.out).mono ?_
  rintro e w2 ⟨r, rfl, rfl, hr⟩
  have HN := Lib.hid hr
  clear hr
  have hP : ParAt w w2.heap.size (r : Int) 0 (w2.alloc (Obj.cells #[.int .i64 (r : Int), .int .i64 0] 23)) :=
    ⟨HR1.out.alloc _, Row.new w2 [.int .i64 (r : Int), .int .i64 0] 23, HLT.out, HB1.out.alloc HB1.out.size _⟩
  have HP := Lib.hid hP
  obtain ⟨C, hC⟩ : ∃ C, w2.heap.size = C := ⟨_, rfl⟩
  have HCC := Lib.hid hC
  clear hP HR1 HB1 HR0 HB0 HLT hC
  have hr64 : i64 (r : Int) := by unfold i64; rcases HN.out with h | h <;> omega
  have HR := Lib.hid hr64
  clear hr64
  cases dt with
  | false =>
    have HX := Lib.hid (show ∀ k o : Nat, MayK k o → L = nameL k o → (r : Int) = k ∧ (0 : Int) = o from fun k o hm e => by
      obtain ⟨h1, h2⟩ := is_low HC.out HN.out hm e
      exact ⟨by rw [h1], by rw [h2]; rfl⟩)
    have HI := Lib.hid (And.intro HR.out (show i64 0 by unfold i64; omega))
    go_wp2_with fail
    rw [HCC.out] at HP ⊢
    obtain ⟨z0, z1, f0, f1⟩ := HP.out.s
    refine (name_any (r : Int) 0 _ (HK.out.of HP.out.base) HI.out.1 HI.out.2).mono ?_
    rintro e w3 ⟨hb3, ⟨hM, rfl⟩ | ⟨hM, rfl⟩⟩
    · replace HP := Lib.hid (HP.out.up hb3)
      have HM := Lib.hid hM
      clear hb3 hM z0 z1 f0 f1
      obtain ⟨z0, z1, f0, f1⟩ := HP.out.s
      obtain ⟨x0, x1, g0, g1⟩ := HP.out.res
      obtain ⟨tl, htl⟩ : ∃ tl, nameL (r : Int).toNat (0 : Int).toNat = tl := ⟨_, rfl⟩
      rw [htl]
      have HTL := Lib.hid htl
      clear htl
      by_cases he : tl = L
      · have hst : (!((strL tl).toList == (strL L).toList)) = false := by rw [he]; simp
        have HE := Lib.hid he
        clear he
        go_wp2_with fail
        refine bodyPost_ret (v := .tuple #[accV (r : Int) 0, .nilIface]) (by simp [results, Tryd.results13, go_sem, x0, x1]) rfl (show AccTo w (strL L) _ _ from ⟨?_, Or.inl ⟨(r : Int).toNat, (0 : Int).toNat, ?_, by rw [HTL.out, HE.out], ?_⟩⟩)
        · exact ((HP.out.base.setCell (by simp) _).setCell (by simp) _)
        · have h := HM.out; unfold MayK at h ⊢; omega
        · have h := HM.out; unfold MayK at h
          rw [show (((r : Int).toNat : Nat) : Int) = (r : Int) by omega, show (((0 : Int).toNat : Nat) : Int) = 0 by omega]
      · have hst : (!((strL tl).toList == (strL L).toList)) = true := by rw [strL_toList, strL_toList]; simpa using he
        have HE := Lib.hid he
        clear he
        go_wp2_with fail
        refine bodyPost_ret (v := .tuple #[accV 0 0, .iface 30 (.int .i64 2)]) (by simp [results, Tryd.results13, go_sem, x0, x1]) rfl (show AccTo w (strL L) _ _ from ⟨?_, Or.inr ⟨?_, rfl⟩⟩)
        · exact ((HP.out.base.setCell (by simp) _).setCell (by simp) _)
        · intro k o hm e
          obtain ⟨e1, e2⟩ := HX.out k o hm (strL_inj e)
          exact HE.out (by rw [← HTL.out, e1, e2, Int.toNat_natCast, Int.toNat_natCast]; exact (strL_inj e).symm)
    · replace HP := Lib.hid (HP.out.up hb3)
      have HM := Lib.hid hM
      clear hb3 hM z0 z1 f0 f1
      obtain ⟨z0, z1, f0, f1⟩ := HP.out.s
      obtain ⟨x0, x1, g0, g1⟩ := HP.out.res
      go_wp2_with fail
      refine bodyPost_ret (v := .tuple #[accV 0 0, .iface 30 (.int .i64 2)]) (by simp [results, Tryd.results13, go_sem, x0, x1]) rfl (show AccTo w (strL L) _ _ from ⟨?_, Or.inr ⟨?_, rfl⟩⟩)
      · exact ((HP.out.base.setCell (by simp) _).setCell (by simp) _)
      · intro k o hm e
        obtain ⟨e1, e2⟩ := HX.out k o hm (strL_inj e)
        exact HM.out (by rw [e1, e2]; exact hm)
  | true =>
    go_wp2_with fail
    refine (atoi_any D HD.out _ (HK.out.of HP.out.base)).mono ?_
    rintro e w3 ⟨hb3, ⟨v, hv, hat, rfl⟩ | ⟨hno, x, A, rfl⟩⟩
    · replace HP := Lib.hid (HP.out.up hb3)
      have HX := Lib.hid (show ∀ k o : Nat, MayK k o → L = nameL k o → (r : Int) = k ∧ v = o from fun k o hm e => by
        obtain ⟨h1, h2⟩ := is_high HC.out HN.out hm e
        rw [hat] at h2
        exact ⟨by rw [h1], by simpa using h2⟩)
      have HI := Lib.hid (And.intro HR.out hv)
      clear hb3 hv hat
      rw [HCC.out] at HP ⊢
      obtain ⟨z0, z1, f0, f1⟩ := HP.out.s
      go_wp2_with fail
      replace HP := Lib.hid (HP.out.put v)
      clear z0 z1 f0 f1
      obtain ⟨z0, z1, f0, f1⟩ := HP.out.s
      refine (name_any (r : Int) v _ (HK.out.of HP.out.base) HI.out.1 HI.out.2).mono ?_
      rintro e w3 ⟨hb3, ⟨hM, rfl⟩ | ⟨hM, rfl⟩⟩
      · replace HP := Lib.hid (HP.out.up hb3)
        have HM := Lib.hid hM
        clear hb3 hM z0 z1 f0 f1
        obtain ⟨z0, z1, f0, f1⟩ := HP.out.s
        obtain ⟨x0, x1, g0, g1⟩ := HP.out.res
        obtain ⟨tl, htl⟩ : ∃ tl, nameL (r : Int).toNat (v : Int).toNat = tl := ⟨_, rfl⟩
        rw [htl]
        have HTL := Lib.hid htl
        clear htl
        by_cases he : tl = L
        · have hst : (!((strL tl).toList == (strL L).toList)) = false := by rw [he]; simp
          have HE := Lib.hid he
          clear he
          go_wp2_with fail
          refine bodyPost_ret (v := .tuple #[accV (r : Int) v, .nilIface]) (by simp [results, Tryd.results13, go_sem, x0, x1]) rfl (show AccTo w (strL L) _ _ from ⟨?_, Or.inl ⟨(r : Int).toNat, (v : Int).toNat, ?_, by rw [HTL.out, HE.out], ?_⟩⟩)
          · exact ((HP.out.base.setCell (by simp) _).setCell (by simp) _)
          · have h := HM.out; unfold MayK at h ⊢; omega
          · have h := HM.out; unfold MayK at h
            rw [show (((r : Int).toNat : Nat) : Int) = (r : Int) by omega, show (((v : Int).toNat : Nat) : Int) = v by omega]
        · have hst : (!((strL tl).toList == (strL L).toList)) = true := by rw [strL_toList, strL_toList]; simpa using he
          have HE := Lib.hid he
          clear he
          go_wp2_with fail
          refine bodyPost_ret (v := .tuple #[accV 0 0, .iface 30 (.int .i64 2)]) (by simp [results, Tryd.results13, go_sem, x0, x1]) rfl (show AccTo w (strL L) _ _ from ⟨?_, Or.inr ⟨?_, rfl⟩⟩)
          · exact ((HP.out.base.setCell (by simp) _).setCell (by simp) _)
          · intro k o hm e
            obtain ⟨e1, e2⟩ := HX.out k o hm (strL_inj e)
            exact HE.out (by rw [← HTL.out, e1, e2, Int.toNat_natCast, Int.toNat_natCast]; exact (strL_inj e).symm)
      · replace HP := Lib.hid (HP.out.up hb3)
        have HM := Lib.hid hM
        clear hb3 hM z0 z1 f0 f1
        obtain ⟨z0, z1, f0, f1⟩ := HP.out.s
        obtain ⟨x0, x1, g0, g1⟩ := HP.out.res
        go_wp2_with fail
        refine bodyPost_ret (v := .tuple #[accV 0 0, .iface 30 (.int .i64 2)]) (by simp [results, Tryd.results13, go_sem, x0, x1]) rfl (show AccTo w (strL L) _ _ from ⟨?_, Or.inr ⟨?_, rfl⟩⟩)
        · exact ((HP.out.base.setCell (by simp) _).setCell (by simp) _)
        · intro k o hm e
          obtain ⟨e1, e2⟩ := HX.out k o hm (strL_inj e)
          exact HM.out (by rw [e1, e2]; exact hm)
    · replace HP := Lib.hid (HP.out.up hb3)
      have HNO := Lib.hid hno
      clear hb3 hno
      obtain ⟨x0, x1, g0, g1⟩ := HP.out.res
      go_wp2_with fail
      refine bodyPost_ret (v := .tuple #[accV 0 0, .iface 30 (.int .i64 2)]) (by simp [results, Tryd.results13, go_sem, x0, x1]) rfl (show AccTo w (strL L) _ _ from ⟨?_, Or.inr ⟨?_, rfl⟩⟩)
      · exact ((HP.out.base.setCell (by simp) _).setCell (by simp) _)
      · intro k o hm e
        exact HNO.out _ (is_high HC.out HN.out hm (strL_inj e)).2

/-- the landed package keeps its contracts -/
theorem chart_any : ChartC := ⟨may_any, debit_any, less_any, name_any, parse_any⟩
end Go.Proofs.YtkiehlkmbkgenaaDoor
