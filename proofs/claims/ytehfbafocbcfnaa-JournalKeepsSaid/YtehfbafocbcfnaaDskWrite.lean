/- A write. -/
import Derived.Test.YtehfbafocbcfnaaDskStand
namespace Go.Proofs.Ytehfbafocbcfnaa
open Go Go.RowKit Go.Maps
set_option linter.unusedVariables false

theorem size_u8 : (Try.prog.info? 5).map (·.size) = some 1 := by kernel_rfl

/-- 'copy' into a row that is known whole, as a run -/
theorem copy_run {w : World} {h off : Nat} {cur : List Value} {dp sp : Option Addr} {dl dc sl sc : Nat} {cs : List Value} (hg : Row h 5 cur w) (hn : cs.length = Nat.min sl dl)
    (hpos : 0 < cs.length → dp = some ⟨h, off, none⟩ ∧ ∃ ad, sp = some ad ∧ ∀ j v, cs[j]? = some v → w.cell? (ad.add j) = some v) (hfit : off + cs.length ≤ cur.length) (h1 : ∀ v ∈ cs, v.oneCell' = true) :
    ∃ w', (Builtin.copy_ #[27, 27] 3 #[.slice dp dl dc, .slice sp sl sc]).run Try.prog w = .ok (goInt cs.length) w' ∧ Hid (Row h 5 (splice cur off cs) w') ∧ Hid (Only (fun k => k = h) w w') := by
  by_cases h0 : cs.length = 0
  · obtain rfl : cs = [] := List.eq_nil_of_length_eq_zero h0
    exact ⟨w, run_copy_none w 27 27 3 5 dp sp dl dc sl sc Try.underlying27 size_u8 (by simpa using hn.symm), (show Row h 5 (splice cur off []) w by simpa [splice] using hg), Only.refl _ _⟩
  · obtain ⟨rfl, ad, rfl, hsrc⟩ := hpos (by omega)
    refine ⟨_, run_copy_row (P := Try.prog) w 27 27 3 5 h off dl dc ad sl sc cur.toArray 5 cs Try.underlying27 size_u8 hg hn hsrc (by simpa using hfit) h1, ?_, ?_⟩
    · show Row h 5 (splice cur off cs) _
      have := setRow_heap w h cur.toArray (splice cur off cs).toArray 5 (0, 0) hg
      rw [show (cur.toArray.toList) = cur from rfl, List.append_assoc]
      exact this
    · exact ⟨rfl, rfl, rfl, by simp [World.setRow], fun k hk hf => setRow_other w h k _ (fun e => hf e)⟩

theorem cells_src {w w' : World} {X : Nat → Prop} {a : Option Addr} {l : Nat} {vs : List Value} (hc : Cells w a l vs) (ho : Only X w w') (hx : ∀ x, a = some x → l = 0 ∨ ¬ X x.block) (h0 : 0 < vs.length) :
    ∃ ad, a = some ad ∧ ∀ j v, vs[j]? = some v → w'.cell? (ad.add j) = some v := by
  obtain ⟨hl, h | ⟨b, off, rfl, hcl⟩⟩ := hc
  · omega
  · refine ⟨_, rfl, fun j v hv => ?_⟩
    have hj : j < vs.length := (List.getElem?_eq_some_iff.1 hv).1
    have h1 := hcl j (by omega)
    rcases hx _ rfl with h2 | h2
    · omega
    · have hlt : b < w.heap.size := cell_lt h1
      have hb := ho.block b hlt h2
      have e : w'.cell? ⟨b, off + j, none⟩ = w.cell? ⟨b, off + j, none⟩ := by simp [World.cell?, hb]
      rw [Addr.add_mid, e, h1]
      rw [List.getD_eq_getElem?_getD, hv]; rfl

set_option maxHeartbeats 8000000 in
set_option maxRecDepth 100000 in
theorem write_any {n g h t : Nat} {s : Dsk} (p : Int) (a : Option Addr) (L c : Nat) (bs : List Nat) (w : World) (H : DAt n g h t s w) (hp : i64d p) (hcs : Cells w a L (bs.map b8)) (ha : ∀ x, a = some x → L = 0 ∨ ¬ foot g h t x.block) (hL : L ≤ 65536) :
    Calls Try.prog 15 #[.pointer (some ⟨g, 0, none⟩), .int .i64 p, .slice a L c] w fun e w' => Only (foot g h t) w w' ∧
      ((thereD n p L = true ∧ e = .returned .nilIface ∧ DAt n g h t (s.write p.toNat bs) w') ∨ (thereD n p L = false ∧ e = .returned (errD 1) ∧ DAt n g h t s w')) := by
  obtain ⟨c0, c1⟩ := H.cells
  have hh := has_any p (L : Int) w H hp (by unfold i64d; omega)
  have hn := H.ok.2.2.2
  have HH := Lib.hid H
  have hbl : bs.length = L := by have := hcs.1; rwa [List.length_map] at this
  cases ht : thereD n p L with
  | false =>
    rw [ht] at hh
    clear H
    go_enter Try.func15, Try.ntmps15
    go_wp2_with fail
    refine hh.mono ?_
    rintro e w1 ⟨rfl, rfl⟩
    go_wp2_with fail
    go_ret
    exact ⟨Only.refl _ _, Or.inr ⟨trivial, rfl, HH.out⟩⟩
  | true =>
    rw [ht] at hh
    obtain ⟨q, rfl, hab⟩ : ∃ q : Nat, p = (q : Int) ∧ q + L ≤ 64 * n := by
      unfold thereD at ht
      simp only [Bool.and_eq_true, decide_eq_true_eq] at ht
      exact ⟨p.toNat, by omega, by omega⟩
    have hst := stand_any q L w H hab
    obtain ⟨E, hE⟩ : ∃ E, q + L = E := ⟨_, rfl⟩
    rw [hE] at hst
    have t1 : IntKind.i64.wrap ((q : Int) + (L : Int)) = (E : Int) := by
      rw [IntWalk.i64_in _ (by omega)]; omega
    have t2 : (0 : Int) ≤ (q : Int) := by omega
    have t3 : (q : Int) ≤ 64 * (n : Int) := by omega
    have t4 : ((q : Int)).toNat = q := by omega
    have t5 : q ≤ 64 * n := by omega
    have HE := Lib.hid hE
    have HA := Lib.hid ha
    have HC := Lib.hid hcs
    have HL := Lib.hid hbl
    have HAB := Lib.hid hab
    clear hE H ha hcs hbl hab
    have hfin : ∀ w1 w2 : World, Only (fun k => k = t) w w1 → (∃ k D, w1.ownsMap Try.prog 3 RB t k D ∧ MapIs D n s.st (dirN s.di q L)) → Hid (Row h 5 (splice (s.nw.map b8) q (bs.map b8)) w2) → Hid (Only (fun k => k = h) w1 w2) → Only (foot g h t) w w2 ∧ DAt n g h t (s.write q bs) w2 := by
      intro w1 w2 ho1 hm hr ho2
      obtain ⟨l1, l2, l3, l4⟩ := HH.out.ok
      obtain ⟨q0, q1, q2⟩ := HH.out.ne
      have hb := HL.out
      have hab := HAB.out
      refine ⟨(ho1.mono fun k _ e => Or.inr (Or.inr e)).trans (ho2.out.mono fun k _ e => Or.inr (Or.inl e)), ⟨(HH.out.r0.only ho1 fun e => q1 e).only ho2.out fun e => q0 e, ?_, ?_, HH.out.ne, by simp [Dsk.write, dirN_len, putN_len, l1, l2, l3, l4], ?_⟩⟩
      · have := hr.out
        rw [← splice_map, ← putN_splice s.nw q bs (by omega)] at this
        exact this
      · obtain ⟨k, D, ho, hm⟩ := hm
        rw [← hb] at hm
        exact ⟨k, D, ownsMap_only ho ho2.out fun e => q2 e.symm, hm⟩
      · exact Clean.write l3 l1 HH.out.cl (by omega)
    have HF := Lib.hid hfin
    clear hfin
    by_cases he : 64 * n = q
    · go_enter Try.func15, Try.ntmps15
      go_wp2_with fail
      refine hh.mono ?_
      rintro e w1 ⟨rfl, rfl⟩
      go_wp2_with fail
      refine hst.mono ?_
      rintro e w2 ⟨rfl, ho2, hm2⟩
      have HO2 := Lib.hid ho2
      have HM2 := Lib.hid hm2
      have hr0 : Row g 73 [.slice (some ⟨h, 0, none⟩) (64 * n) (64 * n), .map (some t)] w2 := HH.out.r0.only HO2.out fun e => HH.out.ne.2.1 e
      have hr1 : Row h 5 (s.nw.map b8) w2 := HH.out.r1.only HO2.out fun e => HH.out.ne.2.2 e
      have d0 := hr0.cell (j := 0) (by simp)
      have HR1 := Lib.hid hr1
      clear ho2 hm2 hr0 hr1 hst hh
      go_wp2_with fail
      obtain ⟨w3, hrun, HR3, HO3⟩ := copy_run (sc := c) (dc := 0) (sl := L) (sp := a) (dp := some ⟨h, 0, none⟩) (dl := 0) (off := q) (cs := bs.map b8) HR1.out (by have := HL.out; have := HAB.out; rw [List.length_map]; show _ = min _ _; omega)
        (fun h0 => by
          rw [List.length_map] at h0
          have := HL.out
          have := HAB.out
          first
            | omega
            | exact ⟨rfl, cells_src HC.out HO2.out (fun x hx => (HA.out x hx).imp id fun hf e => hf (Or.inr (Or.inr e))) (by rw [List.length_map]; exact h0)⟩)
        (by have := HL.out; have := HAB.out; have := HH.out.ok.2.2.1; simp only [List.length_map]; omega) (b8_one bs)
      rw [hrun]
      simp only [Result.andThen_ok, Oper.upon_value]
      clear hrun
      go_wp2_with fail
      go_ret
      have := HF.out w2 w3 HO2.out HM2.out HR3 HO3
      exact ⟨this.1, Or.inl ⟨trivial, rfl, this.2⟩⟩
    · go_enter Try.func15, Try.ntmps15
      go_wp2_with fail
      refine hh.mono ?_
      rintro e w1 ⟨rfl, rfl⟩
      go_wp2_with fail
      refine hst.mono ?_
      rintro e w2 ⟨rfl, ho2, hm2⟩
      have HO2 := Lib.hid ho2
      have HM2 := Lib.hid hm2
      have hr0 : Row g 73 [.slice (some ⟨h, 0, none⟩) (64 * n) (64 * n), .map (some t)] w2 := HH.out.r0.only HO2.out fun e => HH.out.ne.2.1 e
      have hr1 : Row h 5 (s.nw.map b8) w2 := HH.out.r1.only HO2.out fun e => HH.out.ne.2.2 e
      have d0 := hr0.cell (j := 0) (by simp)
      have HR1 := Lib.hid hr1
      clear ho2 hm2 hr0 hr1 hst hh
      go_wp2_with fail
      obtain ⟨w3, hrun, HR3, HO3⟩ := copy_run (sc := c) (dc := 64 * n - q) (sl := L) (sp := a) (dp := some ⟨h, q, none⟩) (dl := 64 * n - q) (off := q) (cs := bs.map b8) HR1.out (by have := HL.out; have := HAB.out; rw [List.length_map]; show _ = min _ _; omega)
        (fun h0 => by
          rw [List.length_map] at h0
          have := HL.out
          have := HAB.out
          first
            | omega
            | exact ⟨rfl, cells_src HC.out HO2.out (fun x hx => (HA.out x hx).imp id fun hf e => hf (Or.inr (Or.inr e))) (by rw [List.length_map]; exact h0)⟩)
        (by have := HL.out; have := HAB.out; have := HH.out.ok.2.2.1; simp only [List.length_map]; omega) (b8_one bs)
      rw [hrun]
      simp only [Result.andThen_ok, Oper.upon_value]
      clear hrun
      go_wp2_with fail
      go_ret
      have := HF.out w2 w3 HO2.out HM2.out HR3 HO3
      exact ⟨this.1, Or.inl ⟨trivial, rfl, this.2⟩⟩
end Go.Proofs.Ytehfbafocbcfnaa
