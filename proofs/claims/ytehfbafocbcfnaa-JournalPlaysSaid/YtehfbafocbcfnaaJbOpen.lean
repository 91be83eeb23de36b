/- The landed journal: a record is kept; all are told; a disk is opened. -/
import Derived.Test.YtehfbafocbcfnaaJbAt
import Derived.Deep.RegionLaw
import Derived.Laws.Cover3
namespace Go.Proofs.Ytehfbafocbcfnaa
open Go Go.RowKit
set_option linter.unusedVariables false

theorem own_at {base m : Nat} {v : Value} {bs : List Nat} {w : World} (h : w.ownsRow base 5 1 v m (bs.map b8)) (hm : 0 < m) : ∃ g cp, v = .slice (some ⟨g, 0, none⟩) m cp ∧ base ≤ g ∧ g < w.heap.size := by
  obtain ⟨g, cp, rfl, h1, h2⟩ := h.form hm
  exact ⟨g, cp, rfl, (h.lt g rfl).1, (h.lt g rfl).2⟩

section
variable {K : Nat} {E : Nat → Prop} {d : Addr} {r : Jr} {v : Value} {vs : List Value} {w w' : World}

set_option maxRecDepth 100000 in
set_option maxHeartbeats 16000000 in
theorem keep_any (a : Option Addr) (m c : Nat) (b : List Nat) (h : LAt K E d r v vs w) (hb : Cells w a m (b.map b8)) (hm0 : 1 ≤ m) (hm1 : m ≤ 1024) (hf : r.fin ≤ 70000) (hr : r.recs.length ≤ 70000) :
    Calls Try.prog 41 #[.pointer (some ⟨K, 0, none⟩), .slice a m c] w fun e w' => e = .returned (.tuple #[]) ∧ Only E w w' ∧
      ∃ E' v' vs', (∀ k, E' k → E k ∨ w.heap.size ≤ k) ∧ LAt K E' d ⟨r.recs ++ [b], r.fin + 8 + m, r.bad⟩ v' vs' w' := by
  have hbl : b.length = m := by have := hb.1; rwa [List.length_map] at this
  have HBL := Lib.hid hbl
  obtain ⟨ab, ao, rfl, hcell⟩ := hb.2.resolve_left (by omega)
  have HCL : Hid (∀ j, j < m → w.cell? ⟨ab, ao + j, none⟩ = some (b8 (b.getD j 0))) := fun j hj => by
    rw [hcell j hj]; simp [List.getD, show j < b.length by omega]
  obtain ⟨va, vn, vc, rfl, hvn⟩ : ∃ va vn vc, v = .slice va vn vc ∧ vn = r.recs.length := by
    rcases h.row.2 with ⟨rfl, h0⟩ | ⟨g, cap, cur, rfl, -⟩
    · exact ⟨none, 0, 0, rfl, by omega⟩
    · exact ⟨_, _, _, rfl, rfl⟩
  subst hvn
  obtain ⟨k0, k1, k2, k3⟩ := h.cells
  obtain ⟨e, he⟩ : ∃ e, r.fin = e := ⟨_, rfl⟩
  have HE := Lib.hid he
  rw [he] at k2 hf
  have H0 := Lib.hid h
  have hT : Hid (Below w.heap.size w w.drew) := Below.drew (Below.refl _ _)
  have k1' : w.drew.cell? ⟨K, 1, none⟩ = some (.slice va r.recs.length vc) := (h.up hT.out).cells.2.1
  have M3 : Hid (r.recs.length + 1 ≤ maxLen) := by show r.recs.length + 1 ≤ maxLen; simp only [maxLen]; omega
  have M4 : Hid ((r.recs.length + 1) * 24 ≤ 140737488355328) := by show (r.recs.length + 1) * 24 ≤ 140737488355328; omega
  clear hcell hb hbl h k0 he
  go_enter Try.func41, Try.ntmps41
  go_wp2_with fail
  go_region_law (first
    | (go_simp; go_at_call 45; with_reducible refine (clone_any ab ao m c b _ HBL.out (by omega) (fun j hj => by rw [hT.out.cell (p := ⟨ab, ao + j, none⟩) (cell_lt (HCL.out j hj))]; exact HCL.out j hj)).mono ?_
       rintro ed w1 ⟨x, rfl, ho1, hb1⟩
       obtain ⟨g1, cp1, rfl, hg1, hg2⟩ := own_at ho1 hm0
       have hT1 := Lib.hid (hT.out.trans (hb1.mono hT.out.size))
       have H1 := Lib.hid (H0.out.up hT1.out)
       have H1a := Lib.hid (H1.out.up ((Below.refl w1.heap.size w1).alloc (Nat.le_refl _) (Obj.cells #[.slice (some ⟨g1, 0, none⟩) m cp1] 27)))
       have HO1 := Lib.hid (ho1.alloc (Obj.cells #[.slice (some ⟨g1, 0, none⟩) m cp1] 27))
       have HG1 : Hid (w.heap.size ≤ g1) := hg1
       have k1b := H1.out.cells.2.1
       have k1c := H1a.out.cells.2.1
       clear ho1 hb1 hg1)
    | (refine step_append_cells rfl (.tmp 8) (.tmp 11) 53 rfl 0 Tsb (.slice va r.recs.length vc) r.recs.length vs (by simp [Act.eval]) H1a.out.row (some ⟨_, 0, none⟩) 1 1 [.slice (some ⟨g1, 0, none⟩) m cp1] (by simp [Act.eval]) (fun h => by cases h) (one_new _ _ _) (one_sl _ _ _) M3.out M4.out (Nat.zero_le _) ?_
       intro v2 w7 o2 q2 r2 l2
       obtain ⟨g2, cp2, rfl, hg3, hg4⟩ := o2.form (Nat.succ_pos _)
       have hO := only_grown8 q2
       have k1d : w7.cell? ⟨K, 1, none⟩ = some (.slice va r.recs.length vc) := ((H1a.out.r0.only hO fun e => (H1a.out.ev K e).2 rfl).cell (j := 1) (by simp))
       have f1d : w7.frozen? ⟨K, 1, none⟩ = false := (H1a.out.r0.only hO fun e => (H1a.out.ev K e).2 rfl).frozen 1))
  all_goals
    have hrow := H1a.out.r0.only hO fun e' => (H1a.out.ev K e').2 rfl
    rw [HE.out] at hrow
    have k2e := (hrow.set 1 (.slice (some ⟨g2, 0, none⟩) (r.recs.length + 1) cp2)).cell (j := 2) (by simp)
    have f2e := (hrow.set 1 (.slice (some ⟨g2, 0, none⟩) (r.recs.length + 1) cp2)).frozen 2
    have s8 : IntKind.i64.wrap (8 + (m : Int)) = 8 + (m : Int) := IntWalk.i64_in _ (by omega)
    have s9 : IntKind.i64.wrap ((e : Int) + (8 + (m : Int))) = (e : Int) + (8 + (m : Int)) := IntWalk.i64_in _ (by omega)
    have hKw : K < w.heap.size := cell_lt k1
    have hsz : w.heap.size ≤ w1.heap.size := hT1.out.size
    have hkt := H1a.out.push (B := w.heap.size) (b := b) (by rw [HBL.out]; exact ownsRow_monoB HO1.out (Nat.zero_le _)) (fun g hg => by
      obtain rfl : g1 = g := Option.some.inj hg
      have h2 := HG1.out
      refine ⟨fun e' => ?_, fun e' => ?_, h2⟩
      · have h1 := H0.out.elt _ (H0.out.ev _ e').1
        omega
      · omega) o2 q2 l2 (by rw [World.size_alloc]; omega) hKw (.int .i64 ((e : Int) + (8 + (m : Int)))) (by rw [HE.out, HBL.out]; go_num)
    have hon : Only E w w7 := (Only.of_below (hT1.out.alloc hsz _)).trans (hO.mono fun i _ hi => (H1a.out.ev i hi).1)
    rw [HBL.out] at hkt
    have HKT := Lib.hid hkt
    have HON := Lib.hid hon
    clear hrow hkt hon
    go_wp2_with fail
    go_end0
    refine ⟨rfl, (HON.out.setCell H0.out.ek _).setCell H0.out.ek _, (fun i => E i ∨ (w.heap.size ≤ i ∧ i < w7.heap.size)), _, _, fun i hi => hi.imp id (·.1), HKT.out⟩

/-- one is told: a copy lies in the row of those that are told -/
theorem told_set {B g : Nat} {cs : List Value} {rs : List (List Nat)} {j : Nat} {x : Value} {w1 : World} (hrow : Row g 27 cs w1) (hl : cs.length = rs.length) (hj : j < rs.length)
    (h : ∀ i, i < j → w1.ownsRow B 5 1 (cs.getD i undef) (rs.getD i []).length ((rs.getD i []).map b8) ∧ ∀ k, (cs.getD i undef).ownBlock = some k → k ≠ g)
    (hx : w1.ownsRow B 5 1 x (rs.getD j []).length ((rs.getD j []).map b8)) (hxg : ∀ k, x.ownBlock = some k → k ≠ g) :
    Row g 27 (cs.set j x) (w1.setCell ⟨g, j, none⟩ x) ∧ (cs.set j x).length = rs.length ∧
      ∀ i, i < j + 1 → (w1.setCell ⟨g, j, none⟩ x).ownsRow B 5 1 ((cs.set j x).getD i undef) (rs.getD i []).length ((rs.getD i []).map b8) ∧ ∀ k, ((cs.set j x).getD i undef).ownBlock = some k → k ≠ g := by
  have ho : Only (fun k => k = g) w1 (w1.setCell ⟨g, j, none⟩ x) := (Only.refl (fun k => k = g) w1).setCell rfl _
  refine ⟨hrow.set j x, by simp [hl], fun i hi => ?_⟩
  by_cases he : i = j
  · subst he
    have e1 : (cs.set i x).getD i undef = x := by simp [List.getD, show i < cs.length by omega]
    rw [e1]
    exact ⟨ownsRow_only hx ho fun k hk h' => hxg k hk h', hxg⟩
  · have e1 : (cs.set j x).getD i undef = cs.getD i undef := by simp [List.getD, show ¬ j = i from fun e => he e.symm]
    rw [e1]
    have := h i (by omega)
    exact ⟨ownsRow_only this.1 ho fun k hk h' => this.2 k hk h', this.2⟩

set_option maxRecDepth 100000 in
set_option maxHeartbeats 16000000 in
theorem records_any (h : LAt K E d r v vs w) (hr : r.recs.length ≤ 70000) (h1 : ∀ x ∈ r.recs, 1 ≤ x.length ∧ x.length ≤ 65536) :
    Calls Try.prog 24 #[.pointer (some ⟨K, 0, none⟩)] w fun e w' => Below w.heap.size w w' ∧ ∃ u, e = .returned u ∧ OwnRecs w.heap.size u r.recs w' := by
  obtain ⟨va, vn, vc, rfl, hvn, hcell⟩ : ∃ va vn vc, v = .slice va vn vc ∧ vn = r.recs.length ∧ ∀ j, j < vn → ∃ b, va = some ⟨b, 0, none⟩ ∧ w.cell? ⟨b, j, none⟩ = some (vs.getD j undef) := by
    have hl := h.row.1
    rcases h.row.2 with ⟨rfl, h0⟩ | ⟨g, cap, cur, rfl, -⟩
    · exact ⟨none, 0, 0, rfl, by omega, fun j hj => by omega⟩
    · refine ⟨_, _, _, rfl, rfl, fun j hj => ⟨g, rfl, ?_⟩⟩
      rw [h.row.cellAt j (by omega)]
      simp [List.getD, show j < vs.length by omega]
  subst hvn
  obtain ⟨k0, k1, k2, k3⟩ := h.cells
  have hm1 := run_make_row' (P := Try.prog) 53 27 (.slice none 0 0) 24 Try.underlying53 info_sb rfl .i64 .i64 r.recs.length (by omega) (by omega)
  simp only [made_rep, List.toArray_replicate] at hm1
  have HC := Lib.hid hcell
  have H0 := Lib.hid h
  have H1 := Lib.hid h1
  have hb1 : Below w.heap.size w (w.alloc (Obj.cells (Array.replicate r.recs.length (Value.slice none 0 0)) 27)) := (Below.refl _ _).alloc (Nat.le_refl _) _
  have k1b := (H0.out.up hb1).cells.2.1
  have hr0 := Row.new w (List.replicate r.recs.length (Value.slice none 0 0)) 27
  rw [List.toArray_replicate] at hr0
  have HB1 := Lib.hid hb1
  have HR0 := Lib.hid hr0
  clear hcell h h1 k0 k2 k3 hb1 hr0
  go_enter Try.func24, Try.ntmps24
  go_wp2_with fail
  go_loopw [17] (fun i wr => ∃ (j : Nat) (cs : List Value), j ≤ r.recs.length ∧ i = .int .i64 (j : Int) ∧ Row w.heap.size 27 cs wr ∧ cs.length = r.recs.length ∧
    Hid (∀ i, i < j → wr.ownsRow w.heap.size 5 1 (cs.getD i undef) (r.recs.getD i []).length ((r.recs.getD i []).map b8) ∧ ∀ k, (cs.getD i undef).ownBlock = some k → k ≠ w.heap.size) ∧ Hid (Below w.heap.size w wr)) (fun i _ => r.recs.length - (RowKit.intOf i).toNat)
  case atStart => exact ⟨0, _, by omega, rfl, HR0.out, by simp, fun i hi => by omega, HB1.out⟩
  case round =>
    obtain ⟨j, cs, hj, rfl, hrow, hlen, hown, hbel⟩ := hrel
    by_cases hlt : j < r.recs.length
    · obtain ⟨b, rfl, hcj⟩ := HC.out j hlt
      obtain ⟨q1, q2⟩ := H0.out.each j hlt
      have hlj := H1.out (r.recs.getD j []) (by simp [List.getD, hlt])
      obtain ⟨x, hx⟩ : ∃ x, r.recs.getD j [] = x := ⟨_, rfl⟩
      rw [hx] at q1 hlj
      obtain ⟨l, hl⟩ : ∃ l, x.length = l := ⟨_, rfl⟩
      rw [hl] at q1 hlj
      obtain ⟨g, cp, hg, -, hg2⟩ := own_at q1 (by omega)
      rw [hg] at q1 hcj
      have hcj' : wr.cell? ⟨b, j, none⟩ = some (.slice (some ⟨g, 0, none⟩) l cp) := by rw [hbel.out.cell (p := ⟨b, j, none⟩) (cell_lt hcj)]; exact hcj
      have hxc : Hid (∀ i, i < l → wr.cell? ⟨g, 0 + i, none⟩ = some (b8 (x.getD i 0))) := fun i hi => by
        have h1 := q1.cellAt i (by omega)
        rw [hbel.out.cell (p := ⟨g, 0 + i, none⟩) (by show g < _; exact hg2), Nat.zero_add, h1, List.getElem?_map]
        simp [List.getD, show i < x.length by omega]
      have f0 := hrow.frozen j
      have t6 : (j : Int) < (r.recs.length : Int) := by omega
      have t7 : (0 : Int) ≤ (j : Int) := by omega
      have s9 : IntKind.i64.wrap ((j : Int) + 1) = (j : Int) + 1 := IntWalk.i64_in _ (by omega)
      have HL := Lib.hid hl
      have HX := Lib.hid hx
      have HROW := Lib.hid hrow
      clear hx hl q1 q2 hcj hrow f0
      go_wp2_with fail
      refine (clone_any g 0 l cp x _ HL.out (by omega) hxc.out).mono ?_
      rintro e w2 ⟨u, rfl, hu, hb2⟩
      obtain ⟨gu, cu, rfl, -, -⟩ := own_at hu (by omega)
      have hr2 := HROW.out.up hb2
      have f0 := hr2.frozen j
      have c0 := hr2.cell (j := j) (by omega)
      have hset := told_set hr2 hlen hlt (fun i hi => ⟨ownsRow_upB (hown.out i hi).1 hb2, (hown.out i hi).2⟩) (by rw [HX.out, HL.out]; exact ownsRow_monoB hu hbel.out.size) (fun k hk => by have h1 := (hu.lt k hk).1; have h2 := HROW.out.lt; omega)
      have HSET := Lib.hid hset
      have HB2 := Lib.hid ((hbel.out.trans (hb2.mono hbel.out.size)).setCell (p := ⟨w.heap.size, j, none⟩) (Nat.le_refl _) (.slice (some ⟨gu, 0, none⟩) l cu))
      clear hr2 hset hu hb2
      go_wp2_with fail
      go_roundw
      case rel => exact ⟨j + 1, _, by omega, by go_num, HSET.out.1, HSET.out.2.1, HSET.out.2.2, HB2.out⟩
      case measure => simp [RowKit.intOf]; omega
    · obtain rfl : j = r.recs.length := by omega
      go_wp2_with fail
      go_ret
      refine ⟨hbel.out, _, rfl, cs, ⟨by omega, Or.inr ⟨w.heap.size, r.recs.length, cs.toArray, rfl, Nat.le_refl _, hrow, Nat.le_refl _, by unfold maxLen; omega, by simp [hlen], by rw [Nat.mul_one, List.toList_toArray, ← hlen, List.take_length]⟩⟩, fun i hi => ⟨(hown.out i hi).1, fun k hk e => ?_⟩⟩
      exact (hown.out i hi).2 k hk (by cases e; rfl)
end

theorem build_lj (a : Option Addr) (w : World) : (Instr.build 77 #[(0, .pointer a)]).run Try.prog w = .ok (.agg #[.pointer a, .slice none 0 0, .int .i64 0, .bool false]) w := run_build w 77 _ _ (by kernel_rfl)

/-- a slice of bytes from a place on -/
theorem slice_tail {a : Option Addr} {len cap P : Nat} {bs : List Nat} {W : World} (hb : Cells W a len (bs.map b8)) (hP : P ≤ len) (hc : len ≤ cap) :
    ∃ a' c', (∀ W', (Instr.slice 27 (.slice a len cap) (some (.int .i64 (P : Int))) none none).run Try.prog W' = .ok (.slice a' (len - P) c') W') ∧ Cells W a' (len - P) ((bs.drop P).map b8) ∧ len - P ≤ c' ∧ ∀ x, a' = some x → ∃ y, a = some y ∧ x.block = y.block := by
  have hz : ∀ w, (Go.sizeOf 5).run Try.prog w = .ok 1 w := fun w => by first | exact Try.sizeOf5 w | exact Try.sizeOf5 | simp [Try.sizeOf5]
  have ht' : Try.prog.underlying 27 = some (.slice (Try.prog.elem 27)) := by simp [Program.elem, Try.underlying27]
  have he : Try.prog.elem 27 = 5 := by simp [Program.elem, Try.underlying27]
  have hbl : bs.length = len := by have := hb.1; rwa [List.length_map] at this
  have hlen : ((bs.drop P).map b8).length = len - P := by simp; omega
  refine ⟨if cap = P then a else a.map (·.add (P * 1)), cap - P, fun W' => ?_, ⟨hlen, ?_⟩, by omega, fun x hx => ?_⟩
  · rw [run_slice_l W' 27 _ _ _ ht' .i64 _ (by omega) (by omega), he, hz]
    simp [Result.andThen, sliced]
  · by_cases h0 : len - P = 0
    · exact Or.inl h0
    · obtain ⟨b, o, rfl, hcell⟩ := hb.2.resolve_left (by omega)
      refine Or.inr ⟨b, o + P, by rw [if_neg (by omega)]; simp [Addr.add], fun j hj => ?_⟩
      rw [Nat.add_assoc, hcell (P + j) (by omega)]
      simp [List.getD, show P + j < bs.length by omega]
  · split at hx
    · exact ⟨x, hx, rfl⟩
    · cases a with
      | none => cases hx
      | some y => cases hx; exact ⟨y, rfl, by simp only [Addr.add]; split <;> rfl⟩

/-- what is held while a disk is opened, before a round -/
structure Opening (n g K : Nat) (s : Dsk) (w1 : World) (p m : Nat) (acc : List (List Nat)) (E : Nat → Prop) (v : Value) (vs : List Value) (bv : Value) (W : World) : Prop where
  la : LAt K E ⟨g, 0, none⟩ ⟨acc, p, false⟩ v vs W
  ok : LOk n ⟨acc, p, false⟩
  fuel : 64 * n ≤ p + m
  sc : recsOf s.nw = acc ++ (scanN s.nw m p).1 ∧ endOf s.nw = (scanN s.nw m p).2
  bel : Below w1.heap.size w1 W
  eb : ∀ k, E k → w1.heap.size ≤ k
  bv : (foundN s.nw p = 0 ∧ bv = .slice none 0 0) ∨ (foundN s.nw p ≠ 0 ∧ ∃ b o c, bv = .slice (some ⟨b, o, none⟩) (foundN s.nw p) c ∧ Cells W (some ⟨b, o, none⟩) (foundN s.nw p) (((s.nw.drop (p + 8)).take (foundN s.nw p)).map b8))

theorem Opening.last {n g K : Nat} {s : Dsk} {w1 : World} {p m : Nat} {acc : List (List Nat)} {E : Nat → Prop} {v : Value} {vs : List Value} {bv : Value} {W : World} (h : Opening n g K s w1 p m acc E v vs bv W) (h0 : foundN s.nw p = 0) : openR s = ⟨acc, p, false⟩ := by
  have e : scanN s.nw m p = ([], p) := by
    cases m with
    | zero => rfl
    | succ m => unfold scanN; rw [if_neg (by rw [h0]; simp)]
  obtain ⟨h1, h2⟩ := h.sc
  rw [e] at h1 h2
  unfold openR
  rw [h1, h2, List.append_nil]

theorem Opening.next {n g K : Nat} {s : Dsk} {w1 : World} {p m : Nat} {acc : List (List Nat)} {E : Nat → Prop} {v : Value} {vs : List Value} {bv : Value} {W : World} (h : Opening n g K s w1 p m acc E v vs bv W) (hl : s.nw.length = 64 * n) (h0 : foundN s.nw p ≠ 0) {W' : World} {E' : Nat → Prop} {v' : Value} {vs' : List Value} {z : List Nat} (hz : (s.nw.drop (p + 8)).take (foundN s.nw p) = z) (hzl : z.length = foundN s.nw p)
    (ho : Only E W W') (hE : ∀ k, E' k → E k ∨ W.heap.size ≤ k) (hla : LAt K E' ⟨g, 0, none⟩ ⟨acc ++ [z], p + 8 + foundN s.nw p, false⟩ v' vs' W') :
    ∃ m', LOk n ⟨acc ++ [z], p + 8 + foundN s.nw p, false⟩ ∧ 64 * n ≤ p + 8 + foundN s.nw p + m' ∧ (recsOf s.nw = (acc ++ [z]) ++ (scanN s.nw m' (p + 8 + foundN s.nw p)).1 ∧ endOf s.nw = (scanN s.nw m' (p + 8 + foundN s.nw p)).2) ∧
      Below w1.heap.size w1 W' ∧ (∀ k, E' k → w1.heap.size ≤ k) ∧ p + 8 + foundN s.nw p ≤ 64 * n := by
  have hfl := foundN_le s.nw p
  rw [hl] at hfl
  obtain ⟨m, rfl⟩ : ∃ m', m = m' + 1 := ⟨m - 1, by have := h.fuel; have := h.ok.fin; simp only at *; omega⟩
  have hsc := h.sc
  have e : scanN s.nw (m + 1) p = (z :: (scanN s.nw m (p + 8 + foundN s.nw p)).1, (scanN s.nw m (p + 8 + foundN s.nw p)).2) := by
    rw [← hz]
    show (if p + 8 < s.nw.length ∧ foundN s.nw p ≠ 0 then _ else _) = _
    rw [if_pos ⟨by omega, h0⟩]
  rw [e] at hsc
  have hm := h.ok.many
  simp only at hm
  refine ⟨m, ⟨by simp only; omega, h.ok.n, by simp only [List.length_append, List.length_singleton]; omega, fun x hx => ?_⟩, by have := h.fuel; omega, ⟨by rw [hsc.1, List.append_assoc]; rfl, hsc.2⟩, h.bel.trans (ho.below h.bel.size h.eb), fun k hk => (hE k hk).elim (h.eb k) fun h' => Nat.le_trans h.bel.size h', by omega⟩
  rcases List.mem_append.1 hx with h1 | h1
  · exact h.ok.each x h1
  · rw [List.mem_singleton.1 h1]; omega

set_option maxRecDepth 100000 in
set_option maxHeartbeats 16000000 in
theorem open_any {n g h t : Nat} {s : Dsk} (w : World) (H : DAt n g h t s w) (hby : ∀ x ∈ s.nw, x < 256) :
    Calls Try.prog 17 #[.pointer (some ⟨g, 0, none⟩)] w fun ed w' => Only (foot g h t) w w' ∧ ∃ E K v vs, ed = .returned (.tuple #[.pointer (some ⟨K, 0, none⟩), .nilIface]) ∧ (∀ k, E k → w.heap.size ≤ k) ∧
      DAt n g h t (openS s) w' ∧ LAt K E ⟨g, 0, none⟩ (openR s) v vs w' ∧ LOk n (openR s) := by
  have hn := H.ok.2.2.2
  have HH := Lib.hid H
  have HB := Lib.hid hby
  have HNL : Hid (s.nw.length = 64 * n) := H.ok.2.2.1
  have rb := build_lj
  have hnn : ∀ (a : Option Addr) (l c : Nat) (w : World), (binOp .neq 27 (.slice a l c) (.slice none 0 0)).run Try.prog w = .ok (.bool (!a.isNone)) w := fun a l c w => run_neq_slice_nil (P := Try.prog) (w := w) _ _ a l c Try.underlying27
  clear H hby
  go_enter Try.func17, Try.ntmps17
  go_wp2_with fail
  refine (size_any w HH.out).mono ?_
  rintro ed w0 ⟨rfl, rfl⟩
  go_wp2_with fail
  refine (read_any 0 (64 * (n : Int)) _ HH.out (by unfold i64d; omega) (by unfold i64d; omega)).mono ?_
  rintro ed w1 ⟨hb1, ⟨-, va, rfl, hown⟩ | ⟨hx, -⟩⟩
  rotate_left
  · exfalso
    unfold thereD at hx
    simp at hx
    omega
  rw [show (0 : Int).toNat = 0 from rfl, show (64 * (n : Int)).toNat = 64 * n by omega, List.drop_zero, List.take_of_length_le (by rw [HNL.out]; omega)] at hown
  obtain ⟨pa, pc, rfl, hcl, hpn, hpc, hpb⟩ := own_bytes hown
  have HB1 := Lib.hid hb1
  have HCL := Lib.hid hcl
  have HPB := Lib.hid hpb
  have hL0 : LAt w1.heap.size (fun k => k = w1.heap.size) ⟨g, 0, none⟩ ⟨[], 0, false⟩ (.slice none 0 0) [] (w1.alloc (Obj.cells #[.pointer (some ⟨g, 0, none⟩), .slice none 0 0, .int .i64 0, .bool false] 77)) :=
    ⟨Row.new w1 [.pointer (some ⟨g, 0, none⟩), .slice none 0 0, .int .i64 0, .bool false] _, World.ownsRow_nil _ _ _ _, (fun j hj => by simp at hj), (fun g hg => by cases hg), (fun j hj => by simp at hj), rfl, (fun k hk => by rw [hk, World.size_alloc]; omega)⟩
  have HL0 := Lib.hid hL0
  have hb2 : Below w1.heap.size w1 (w1.alloc (Obj.cells #[.pointer (some ⟨g, 0, none⟩), .slice none 0 0, .int .i64 0, .bool false] 77)) := (Below.refl _ _).alloc (Nat.le_refl _) _
  have HB2 := Lib.hid hb2
  clear hb1 hown hcl hpb hL0 hb2
  go_wp2_with fail
  refine (first_any pa (64 * n) pc s.nw _ (HCL.out.upB HB2.out) HB.out (by omega) hpc).mono ?_
  rintro ed w2 ⟨hb3, hres⟩
  have hfs : fstN s.nw = foundN s.nw 0 := by have := fstN_found (bs := s.nw) (p := 0) (Nat.zero_le _); rwa [List.drop_zero] at this
  rw [hfs] at hres
  obtain ⟨bv, rfl, hO⟩ : ∃ bv, ed = .returned bv ∧ Opening n g w1.heap.size s w1 0 s.nw.length [] (fun k => k = w1.heap.size) (.slice none 0 0) [] bv w2 := by
    rcases hres with ⟨h0, rfl⟩ | ⟨h0, b, o, rfl, hc⟩
    · exact ⟨_, rfl, ⟨HL0.out.up hb3, ⟨by simp, hn, by simp, fun x hx => by simp at hx⟩, by rw [HNL.out]; omega, ⟨rfl, rfl⟩, HB2.out.trans (hb3.mono HB2.out.size), fun k hk => by rw [hk]; exact Nat.le_refl _, Or.inl ⟨h0, rfl⟩⟩⟩
    · exact ⟨_, rfl, ⟨HL0.out.up hb3, ⟨by simp, hn, by simp, fun x hx => by simp at hx⟩, by rw [HNL.out]; omega, ⟨rfl, rfl⟩, HB2.out.trans (hb3.mono HB2.out.size), fun k hk => by rw [hk]; exact Nat.le_refl _, Or.inr ⟨h0, b, o, _, rfl, by simpa using hc⟩⟩⟩
  have HO := Lib.hid hO
  clear hb3 hres hfs hO HL0 HB2
  go_wp2_with fail
  go_loopw [7] (fun bv wr => ∃ p m acc E v vs, Hid (Opening n g w1.heap.size s w1 p m acc E v vs bv wr)) (fun _ wr => 64 * n - (RowKit.intOf ((wr.cell? ⟨w1.heap.size, 2, none⟩).getD undef)).toNat)
  case atStart => exact ⟨_, _, _, _, _, _, HO.out⟩
  case round =>
    obtain ⟨p, m, acc, E, v, vs, ho⟩ := hrel
    have hpf : p ≤ 64 * n := ho.out.ok.fin
    have c2 : wr.cell? ⟨w1.heap.size, 2, none⟩ = some (.int .i64 (p : Int)) := ho.out.la.cells.2.2.1
    have HBW : Hid (Below w0.heap.size w0 wr) := HB1.out.trans (ho.out.bel.mono HB1.out.size)
    rcases ho.out.bv with ⟨h0, rfl⟩ | ⟨h0, b, o, c, rfl, hc⟩
    · have HR := Lib.hid (ho.out.last h0)
      obtain ⟨ta, tc, hts, htc, htcap, htb⟩ := slice_tail (P := p) HCL.out hpf hpc
      have HTC := Lib.hid (htc.upB ho.out.bel)
      have HTB := Lib.hid htb
      have HLA := Lib.hid ho.out.la
      have HOK := Lib.hid ho.out.ok
      have HEB := Lib.hid ho.out.eb
      clear htc htb h0 ho HO
      go_wp2_with fail
      have HP : Hid (Putting n g h t s w1.heap.size p ta (64 * n - p) (s.nw.drop p) wr wr) := ⟨HH.out.up HBW.out, HLA.out.cells.1, c2, HTC.out, Only.refl _ _⟩
      have HLT := HH.out.lt
      have hsz := HB1.out.size
      refine (clear_any ta (64 * n - p) tc (s.nw.drop p) _ HP.out (fun hf => by rcases hf with hf | hf | hf <;> omega) (fun x hx => Or.inr fun hf => by
        obtain ⟨y, hy, e⟩ := HTB.out x hx
        have := HPB.out y hy
        rw [e] at hf
        rcases hf with hf | hf | hf <;> omega) (fun x hx => HB.out x (List.mem_of_mem_drop hx)) (by omega)).mono ?_
      rintro ed w5 ⟨rfl, ho5, hd5⟩
      have HO5 := Lib.hid ho5
      have HD5 := Lib.hid hd5
      clear ho5 hd5
      go_wp2_with fail
      go_ret2
      have hrs := HR.out
      have e1 : endOf s.nw = p := by have := congrArg Jr.fin hrs; exact this
      refine ⟨(Only.of_below HBW.out).trans HO5.out, E, _, v, vs, rfl, fun k hk => Nat.le_trans hsz (HEB.out k hk), ?_, ?_, ?_⟩
      · unfold openS
        rw [e1, HNL.out]
        exact HD5.out
      · rw [hrs]
        exact HLA.out.only HO5.out fun k hk hE => by
          have := HEB.out k hE
          rcases hk with hf | hf | hf <;> omega
      · rw [hrs]
        exact HOK.out
    · obtain ⟨z, hz⟩ : ∃ z, (s.nw.drop (p + 8)).take (foundN s.nw p) = z := ⟨_, rfl⟩
      have hfl := foundN_le s.nw p
      rw [HNL.out] at hfl
      have hzl : z.length = foundN s.nw p := by rw [← hz, List.length_take, List.length_drop, HNL.out]; omega
      have hO := ho.out
      have HZ := Lib.hid hz
      have HZL := Lib.hid hzl
      rw [hz] at hc
      obtain ⟨f, hff⟩ : ∃ f, foundN s.nw p = f := ⟨_, rfl⟩
      rw [hff] at hc hfl h0 ⊢
      have HFF := Lib.hid hff
      have HC := Lib.hid hc
      obtain ⟨P, hP⟩ : ∃ P, p + 8 + f = P := ⟨_, rfl⟩
      have hPn : P ≤ 64 * n := by omega
      have HPP := Lib.hid hP
      have hpP : p < P := by omega
      obtain ⟨ta, tc, hts, htc, htcap, htb⟩ := slice_tail (P := P) HCL.out hPn hpc
      have HTC := Lib.hid htc
      have hacc : acc.length ≤ 70000 := by have := hO.ok.many; simp only at this; omega
      clear hz hzl hc hff htc htb HO hO hP
      go_wp2_with fail
      refine (keep_any (some ⟨b, o, none⟩) f c z ho.out.la HC.out (by omega) (by omega) (by simp only; omega) hacc).mono ?_
      rintro ed w5 ⟨rfl, ho5, E', v', vs', hE', hla⟩
      have hnx := ho.out.next HNL.out (by rw [HFF.out]; exact h0) HZ.out HZL.out ho5 hE' (by rw [HFF.out]; exact hla)
      rw [HFF.out, HPP.out] at hnx
      obtain ⟨m', hok, hfuel, hscn, hbel, heb, hple⟩ := hnx
      have hla : LAt w1.heap.size E' ⟨g, 0, none⟩ ⟨acc ++ [z], P, false⟩ v' vs' w5 := by rw [← HPP.out]; exact hla
      have c2' : w5.cell? ⟨w1.heap.size, 2, none⟩ = some (.int .i64 (P : Int)) := hla.cells.2.2.1
      have HLA := Lib.hid hla
      have HOK := Lib.hid hok
      have HSC := Lib.hid hscn
      have HBEL := Lib.hid hbel
      have HEB := Lib.hid heb
      clear hla hok hscn hbel heb ho5 hE' ho
      go_wp2_with fail
      with_reducible refine (first_any ta (64 * n - (P)) tc (s.nw.drop (P)) _ (HTC.out.upB HBEL.out) (fun x hx => HB.out x (List.mem_of_mem_drop hx)) (by omega) htcap).mono ?_
      rintro ed w6 ⟨hb6, hres⟩
      rw [fstN_found (by rw [HNL.out]; exact hple)] at hres
      obtain ⟨bv', rfl, hO⟩ : ∃ bv', ed = .returned bv' ∧ Opening n g w1.heap.size s w1 (P) m' (acc ++ [z]) E' v' vs' bv' w6 := by
        rcases hres with ⟨h0, rfl⟩ | ⟨h0, b, o, rfl, hc⟩
        · exact ⟨_, rfl, ⟨HLA.out.up hb6, HOK.out, hfuel, HSC.out, HBEL.out.trans (hb6.mono HBEL.out.size), HEB.out, Or.inl ⟨h0, rfl⟩⟩⟩
        · exact ⟨_, rfl, ⟨HLA.out.up hb6, HOK.out, hfuel, HSC.out, HBEL.out.trans (hb6.mono HBEL.out.size), HEB.out, Or.inr ⟨h0, b, o, _, rfl, by rw [List.drop_drop] at hc; exact hc⟩⟩⟩
      have hO2 := Lib.hid hO
      have c6 : w6.cell? ⟨w1.heap.size, 2, none⟩ = some (.int .i64 (P : Int)) := hO.la.cells.2.2.1
      clear hb6 hres hO
      go_wp2_with fail
      go_roundw
      case rel => exact ⟨_, _, _, _, _, _, hO2.out⟩
      case measure => rw [c6, c2]; simp [RowKit.intOf]; omega
end Go.Proofs.Ytehfbafocbcfnaa
