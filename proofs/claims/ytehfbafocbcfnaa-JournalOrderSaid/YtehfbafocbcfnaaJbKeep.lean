/- The landed journal: a record is kept; all are told. -/
import Derived.Test.YtehfbafocbcfnaaJbAt
import Derived.Deep.RegionLaw
namespace Go.Proofs.Ytehfbafocbcfnaa
open Go Go.RowKit
set_option linter.unusedVariables false

theorem own_at {base m : Nat} {v : Value} {bs : List Nat} {w : World} (h : w.ownsRow base 5 1 v m (bs.map b8)) (hm : 0 < m) : ∃ g cp, v = .slice (some ⟨g, 0, none⟩) m cp ∧ base ≤ g ∧ g < w.heap.size := by
  obtain ⟨g, cp, rfl, h1, h2⟩ := h.form hm
  exact ⟨g, cp, rfl, (h.lt g rfl).1, (h.lt g rfl).2⟩

section
variable {K : Nat} {E : Nat → Prop} {d : Addr} {r : Jr} {v : Value} {vs : List Value} {w w' : World}

set_option maxRecDepth 100000 in
set_option maxHeartbeats 16000000 in
theorem keep_any (a : Option Addr) (m c : Nat) (b : List Nat) (h : LAt K E d r v vs w) (hb : Cells w a m (b.map b8)) (hm0 : 1 ≤ m) (hm1 : m ≤ 1024) (hf : r.fin ≤ 70000) (hr : r.recs.length ≤ 70000) :
    Calls Try.prog 41 #[.pointer (some ⟨K, 0, none⟩), .slice a m c] w fun e w' => e = .returned (.tuple #[]) ∧ Only E w w' ∧
      ∃ E' v' vs', (∀ k, E' k → E k ∨ w.heap.size ≤ k) ∧ LAt K E' d ⟨r.recs ++ [b], r.fin + 8 + m, r.bad⟩ v' vs' w' := by
  have hbl : b.length = m := by have := hb.1; rwa [List.length_map] at this
  have HBL := Lib.hid hbl
  obtain ⟨ab, ao, rfl, hcell⟩ := hb.2.resolve_left (by omega)
  have HCL : Hid (∀ j, j < m → w.cell? ⟨ab, ao + j, none⟩ = some (b8 (b.getD j 0))) := fun j hj => by
    rw [hcell j hj]; simp [List.getD, show j < b.length by omega]
  obtain ⟨va, vn, vc, rfl, hvn⟩ : ∃ va vn vc, v = .slice va vn vc ∧ vn = r.recs.length := by
    rcases h.row.2 with ⟨rfl, h0⟩ | ⟨g, cap, cur, rfl, -⟩
    · exact ⟨none, 0, 0, rfl, by omega⟩
    · exact ⟨_, _, _, rfl, rfl⟩
  subst hvn
  obtain ⟨k0, k1, k2, k3⟩ := h.cells
  obtain ⟨e, he⟩ : ∃ e, r.fin = e := ⟨_, rfl⟩
  have HE := Lib.hid he
  rw [he] at k2 hf
  have H0 := Lib.hid h
  have hT : Hid (Below w.heap.size w w.drew) := Below.drew (Below.refl _ _)
  have k1' : w.drew.cell? ⟨K, 1, none⟩ = some (.slice va r.recs.length vc) := (h.up hT.out).cells.2.1
  have M3 : Hid (r.recs.length + 1 ≤ maxLen) := by show r.recs.length + 1 ≤ maxLen; simp only [maxLen]; omega
  have M4 : Hid ((r.recs.length + 1) * 24 ≤ 140737488355328) := by show (r.recs.length + 1) * 24 ≤ 140737488355328; omega
  clear hcell hb hbl h k0 he
  go_enter Try.func41, Try.ntmps41
  go_wp2_with fail
  go_region_law (first
    | (go_simp; go_at_call 45; with_reducible refine (clone_any ab ao m c b _ HBL.out (by omega) (fun j hj => by rw [hT.out.cell (p := ⟨ab, ao + j, none⟩) (cell_lt (HCL.out j hj))]; exact HCL.out j hj)).mono ?_
       rintro ed w1 ⟨x, rfl, ho1, hb1⟩
       obtain ⟨g1, cp1, rfl, hg1, hg2⟩ := own_at ho1 hm0
       have hT1 := Lib.hid (hT.out.trans (hb1.mono hT.out.size))
       have H1 := Lib.hid (H0.out.up hT1.out)
       have H1a := Lib.hid (H1.out.up ((Below.refl w1.heap.size w1).alloc (Nat.le_refl _) (Obj.cells #[.slice (some ⟨g1, 0, none⟩) m cp1] 27)))
       have HO1 := Lib.hid (ho1.alloc (Obj.cells #[.slice (some ⟨g1, 0, none⟩) m cp1] 27))
       have HG1 : Hid (w.heap.size ≤ g1) := hg1
       have k1b := H1.out.cells.2.1
       have k1c := H1a.out.cells.2.1
       clear ho1 hb1 hg1)
    | (refine step_append_cells rfl (.tmp 8) (.tmp 11) 53 rfl 0 Tsb (.slice va r.recs.length vc) r.recs.length vs (by simp [Act.eval]) H1a.out.row (some ⟨_, 0, none⟩) 1 1 [.slice (some ⟨g1, 0, none⟩) m cp1] (by simp [Act.eval]) (fun h => by cases h) (one_new _ _ _) (one_sl _ _ _) M3.out M4.out (Nat.zero_le _) ?_
       intro v2 w7 o2 q2 r2 l2
       obtain ⟨g2, cp2, rfl, hg3, hg4⟩ := o2.form (Nat.succ_pos _)
       have hO := only_grown8 q2
       have k1d : w7.cell? ⟨K, 1, none⟩ = some (.slice va r.recs.length vc) := ((H1a.out.r0.only hO fun e => (H1a.out.ev K e).2 rfl).cell (j := 1) (by simp))
       have f1d : w7.frozen? ⟨K, 1, none⟩ = false := (H1a.out.r0.only hO fun e => (H1a.out.ev K e).2 rfl).frozen 1))
  all_goals
    have hrow := H1a.out.r0.only hO fun e' => (H1a.out.ev K e').2 rfl
    rw [HE.out] at hrow
    have k2e := (hrow.set 1 (.slice (some ⟨g2, 0, none⟩) (r.recs.length + 1) cp2)).cell (j := 2) (by simp)
    have f2e := (hrow.set 1 (.slice (some ⟨g2, 0, none⟩) (r.recs.length + 1) cp2)).frozen 2
    have s8 : IntKind.i64.wrap (8 + (m : Int)) = 8 + (m : Int) := IntWalk.i64_in _ (by omega)
    have s9 : IntKind.i64.wrap ((e : Int) + (8 + (m : Int))) = (e : Int) + (8 + (m : Int)) := IntWalk.i64_in _ (by omega)
    have hKw : K < w.heap.size := cell_lt k1
    have hsz : w.heap.size ≤ w1.heap.size := hT1.out.size
    have hkt := H1a.out.push (B := w.heap.size) (b := b) (by rw [HBL.out]; exact ownsRow_monoB HO1.out (Nat.zero_le _)) (fun g hg => by
      obtain rfl : g1 = g := Option.some.inj hg
      have h2 := HG1.out
      refine ⟨fun e' => ?_, fun e' => ?_, h2⟩
      · have h1 := H0.out.elt _ (H0.out.ev _ e').1
        omega
      · omega) o2 q2 l2 (by rw [World.size_alloc]; omega) hKw (.int .i64 ((e : Int) + (8 + (m : Int)))) (by rw [HE.out, HBL.out]; go_num)
    have hon : Only E w w7 := (Only.of_below (hT1.out.alloc hsz _)).trans (hO.mono fun i _ hi => (H1a.out.ev i hi).1)
    rw [HBL.out] at hkt
    have HKT := Lib.hid hkt
    have HON := Lib.hid hon
    clear hrow hkt hon
    go_wp2_with fail
    go_end0
    refine ⟨rfl, (HON.out.setCell H0.out.ek _).setCell H0.out.ek _, (fun i => E i ∨ (w.heap.size ≤ i ∧ i < w7.heap.size)), _, _, fun i hi => hi.imp id (·.1), HKT.out⟩

/-- one is told: a copy lies in the row of those that are told -/
theorem told_set {B g : Nat} {cs : List Value} {rs : List (List Nat)} {j : Nat} {x : Value} {w1 : World} (hrow : Row g 27 cs w1) (hl : cs.length = rs.length) (hj : j < rs.length)
    (h : ∀ i, i < j → w1.ownsRow B 5 1 (cs.getD i undef) (rs.getD i []).length ((rs.getD i []).map b8) ∧ ∀ k, (cs.getD i undef).ownBlock = some k → k ≠ g)
    (hx : w1.ownsRow B 5 1 x (rs.getD j []).length ((rs.getD j []).map b8)) (hxg : ∀ k, x.ownBlock = some k → k ≠ g) :
    Row g 27 (cs.set j x) (w1.setCell ⟨g, j, none⟩ x) ∧ (cs.set j x).length = rs.length ∧
      ∀ i, i < j + 1 → (w1.setCell ⟨g, j, none⟩ x).ownsRow B 5 1 ((cs.set j x).getD i undef) (rs.getD i []).length ((rs.getD i []).map b8) ∧ ∀ k, ((cs.set j x).getD i undef).ownBlock = some k → k ≠ g := by
  have ho : Only (fun k => k = g) w1 (w1.setCell ⟨g, j, none⟩ x) := (Only.refl (fun k => k = g) w1).setCell rfl _
  refine ⟨hrow.set j x, by simp [hl], fun i hi => ?_⟩
  by_cases he : i = j
  · subst he
    have e1 : (cs.set i x).getD i undef = x := by simp [List.getD, show i < cs.length by omega]
    rw [e1]
    exact ⟨ownsRow_only hx ho fun k hk h' => hxg k hk h', hxg⟩
  · have e1 : (cs.set j x).getD i undef = cs.getD i undef := by simp [List.getD, show ¬ j = i from fun e => he e.symm]
    rw [e1]
    have := h i (by omega)
    exact ⟨ownsRow_only this.1 ho fun k hk h' => this.2 k hk h', this.2⟩

set_option maxRecDepth 100000 in
set_option maxHeartbeats 16000000 in
theorem records_any (h : LAt K E d r v vs w) (hr : r.recs.length ≤ 70000) (h1 : ∀ x ∈ r.recs, 1 ≤ x.length ∧ x.length ≤ 65536) :
    Calls Try.prog 24 #[.pointer (some ⟨K, 0, none⟩)] w fun e w' => Below w.heap.size w w' ∧ ∃ u, e = .returned u ∧ OwnRecs w.heap.size u r.recs w' := by
  obtain ⟨va, vn, vc, rfl, hvn, hcell⟩ : ∃ va vn vc, v = .slice va vn vc ∧ vn = r.recs.length ∧ ∀ j, j < vn → ∃ b, va = some ⟨b, 0, none⟩ ∧ w.cell? ⟨b, j, none⟩ = some (vs.getD j undef) := by
    have hl := h.row.1
    rcases h.row.2 with ⟨rfl, h0⟩ | ⟨g, cap, cur, rfl, -⟩
    · exact ⟨none, 0, 0, rfl, by omega, fun j hj => by omega⟩
    · refine ⟨_, _, _, rfl, rfl, fun j hj => ⟨g, rfl, ?_⟩⟩
      rw [h.row.cellAt j (by omega)]
      simp [List.getD, show j < vs.length by omega]
  subst hvn
  obtain ⟨k0, k1, k2, k3⟩ := h.cells
  have hm1 := run_make_row' (P := Try.prog) 53 27 (.slice none 0 0) 24 Try.underlying53 info_sb rfl .i64 .i64 r.recs.length (by omega) (by omega)
  simp only [made_rep, List.toArray_replicate] at hm1
  have HC := Lib.hid hcell
  have H0 := Lib.hid h
  have H1 := Lib.hid h1
  have hb1 : Below w.heap.size w (w.alloc (Obj.cells (Array.replicate r.recs.length (Value.slice none 0 0)) 27)) := (Below.refl _ _).alloc (Nat.le_refl _) _
  have k1b := (H0.out.up hb1).cells.2.1
  have hr0 := Row.new w (List.replicate r.recs.length (Value.slice none 0 0)) 27
  rw [List.toArray_replicate] at hr0
  have HB1 := Lib.hid hb1
  have HR0 := Lib.hid hr0
  clear hcell h h1 k0 k2 k3 hb1 hr0
  go_enter Try.func24, Try.ntmps24
  go_wp2_with fail
  go_loopw [17] (fun i wr => ∃ (j : Nat) (cs : List Value), j ≤ r.recs.length ∧ i = .int .i64 (j : Int) ∧ Row w.heap.size 27 cs wr ∧ cs.length = r.recs.length ∧
    Hid (∀ i, i < j → wr.ownsRow w.heap.size 5 1 (cs.getD i undef) (r.recs.getD i []).length ((r.recs.getD i []).map b8) ∧ ∀ k, (cs.getD i undef).ownBlock = some k → k ≠ w.heap.size) ∧ Hid (Below w.heap.size w wr)) (fun i _ => r.recs.length - (RowKit.intOf i).toNat)
  case atStart => exact ⟨0, _, by omega, rfl, HR0.out, by simp, fun i hi => by omega, HB1.out⟩
  case round =>
    obtain ⟨j, cs, hj, rfl, hrow, hlen, hown, hbel⟩ := hrel
    by_cases hlt : j < r.recs.length
    · obtain ⟨b, rfl, hcj⟩ := HC.out j hlt
      obtain ⟨q1, q2⟩ := H0.out.each j hlt
      have hlj := H1.out (r.recs.getD j []) (by simp [List.getD, hlt])
      obtain ⟨x, hx⟩ : ∃ x, r.recs.getD j [] = x := ⟨_, rfl⟩
      rw [hx] at q1 hlj
      obtain ⟨l, hl⟩ : ∃ l, x.length = l := ⟨_, rfl⟩
      rw [hl] at q1 hlj
      obtain ⟨g, cp, hg, -, hg2⟩ := own_at q1 (by omega)
      rw [hg] at q1 hcj
      have hcj' : wr.cell? ⟨b, j, none⟩ = some (.slice (some ⟨g, 0, none⟩) l cp) := by rw [hbel.out.cell (p := ⟨b, j, none⟩) (cell_lt hcj)]; exact hcj
      have hxc : Hid (∀ i, i < l → wr.cell? ⟨g, 0 + i, none⟩ = some (b8 (x.getD i 0))) := fun i hi => by
        have h1 := q1.cellAt i (by omega)
        rw [hbel.out.cell (p := ⟨g, 0 + i, none⟩) (by show g < _; exact hg2), Nat.zero_add, h1, List.getElem?_map]
        simp [List.getD, show i < x.length by omega]
      have f0 := hrow.frozen j
      have t6 : (j : Int) < (r.recs.length : Int) := by omega
      have t7 : (0 : Int) ≤ (j : Int) := by omega
      have s9 : IntKind.i64.wrap ((j : Int) + 1) = (j : Int) + 1 := IntWalk.i64_in _ (by omega)
      have HL := Lib.hid hl
      have HX := Lib.hid hx
      have HROW := Lib.hid hrow
      clear hx hl q1 q2 hcj hrow f0
      go_wp2_with fail
      refine (clone_any g 0 l cp x _ HL.out (by omega) hxc.out).mono ?_
      rintro e w2 ⟨u, rfl, hu, hb2⟩
      obtain ⟨gu, cu, rfl, -, -⟩ := own_at hu (by omega)
      have hr2 := HROW.out.up hb2
      have f0 := hr2.frozen j
      have c0 := hr2.cell (j := j) (by omega)
      have hset := told_set hr2 hlen hlt (fun i hi => ⟨ownsRow_upB (hown.out i hi).1 hb2, (hown.out i hi).2⟩) (by rw [HX.out, HL.out]; exact ownsRow_monoB hu hbel.out.size) (fun k hk => by have h1 := (hu.lt k hk).1; have h2 := HROW.out.lt; omega)
      have HSET := Lib.hid hset
      have HB2 := Lib.hid ((hbel.out.trans (hb2.mono hbel.out.size)).setCell (p := ⟨w.heap.size, j, none⟩) (Nat.le_refl _) (.slice (some ⟨gu, 0, none⟩) l cu))
      clear hr2 hset hu hb2
      go_wp2_with fail
      go_roundw
      case rel => exact ⟨j + 1, _, by omega, by go_num, HSET.out.1, HSET.out.2.1, HSET.out.2.2, HB2.out⟩
      case measure => simp [RowKit.intOf]; omega
    · obtain rfl : j = r.recs.length := by omega
      go_wp2_with fail
      go_ret
      refine ⟨hbel.out, _, rfl, cs, ⟨by omega, Or.inr ⟨w.heap.size, r.recs.length, cs.toArray, rfl, Nat.le_refl _, hrow, Nat.le_refl _, by unfold maxLen; omega, by simp [hlen], by rw [Nat.mul_one, List.toList_toArray, ← hlen, List.take_length]⟩⟩, fun i hi => ⟨(hown.out i hi).1, fun k hk e => ?_⟩⟩
      exact (hown.out i hi).2 k hk (by cases e; rfl)
end
end Go.Proofs.Ytehfbafocbcfnaa
