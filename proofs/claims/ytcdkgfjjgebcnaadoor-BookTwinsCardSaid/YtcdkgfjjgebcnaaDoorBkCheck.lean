/- The landed package book: why lines can be no entry, whatever the balances. -/
import Derived.Test.YtcdkgfjjgebcnaaDoorBkAt
import Derived.Test.YtcdkgfjjgebcnaaDoorChart
import Derived.Test.YtcdkgfjjgebcnaaDoorSum
import Derived.Deep.OwnRows
namespace Go.Proofs.YtcdkgfjjgebcnaaDoor
open Go Go.RowKit
set_option linter.unusedVariables false

/-- why lines can be no entry: an error's number -/
def checkN (l : List Ln) : Nat := if l.length < 1 ∨ 32 < l.length then 1 else if l.any badL = true then 1 else if sumV l ≠ 0 then 2 else 0

theorem made_rep10 (z : Value) (n : Nat) : madeCells #[z] n = (List.replicate n z).toArray := by
  refine Array.ext ?_ fun i h1 h2 => ?_
  · simp [size_madeCells]
  · simp [madeCells, Nat.mod_one]
theorem any_step10 {l : List Ln} {j : Nat} {x : Ln} (h : l[j]? = some x) : (l.take (j + 1)).any badL = ((l.take j).any badL || badL x) := by
  rw [List.take_add_one, h]
  simp
theorem any_take10 {l : List Ln} {j : Nat} (h : (l.take j).any badL = true) : l.any badL = true := by
  rw [List.any_eq_true] at h ⊢
  obtain ⟨x, hx, hb⟩ := h
  exact ⟨x, List.mem_of_mem_take hx, hb⟩
theorem badL_iff10 (x : Ln) : badL x = true ↔ (¬ MayK x.k x.o ∨ x.v = 0) := by
  unfold badL
  simp
theorem info_v64 : (Tryd.prog.info? 2).map (fun i => (i.zero, i.size, i.bytes)) = some (some (.int .i64 0), 1, 8) := by kernel_rfl

/-- the amounts so far -/
structure AmAt (w : World) (n : Nat) (ls : List Ln) (j : Nat) (W : World) : Prop where
  row : Row w.heap.size 2 (((ls.take j).map fun x : Ln => Value.int .i64 x.v) ++ List.replicate (n - j) (.int .i64 0)) W
  below : Below w.heap.size w W
theorem AmAt.up {w : World} {n : Nat} {ls : List Ln} {j : Nat} {W W' : World} (h : AmAt w n ls j W) (hb : Below W.heap.size W W') : AmAt w n ls j W' := ⟨h.row.up hb, h.below.trans (hb.mono h.below.size)⟩

theorem AmAt.put {w : World} {n : Nat} {ls : List Ln} {j : Nat} {W : World} {x : Ln} (h : AmAt w n ls j W) (hx : ls[j]? = some x) (hj : j < ls.length) (hn : ls.length = n) : AmAt w n ls (j + 1) (W.setCell ⟨w.heap.size, j, none⟩ (.int .i64 x.v)) := by
  refine ⟨?_, h.below.setCell (Nat.le_refl _) _⟩
  have h1 := h.row.set j (.int .i64 x.v)
  have e : (((ls.take j).map fun x : Ln => Value.int .i64 x.v) ++ List.replicate (n - j) (Value.int .i64 0)).set j (.int .i64 x.v) = ((ls.take (j + 1)).map fun x : Ln => Value.int .i64 x.v) ++ List.replicate (n - (j + 1)) (Value.int .i64 0) := by
    have hl : ((ls.take j).map fun x : Ln => Value.int .i64 x.v).length = j := by simp; omega
    rw [List.set_append_right _ _ (by rw [hl]; exact Nat.le_refl _), hl, Nat.sub_self, show n - j = (n - (j + 1)) + 1 by omega, List.replicate_succ, List.set_cons_zero]
    rw [List.take_add_one, hx]
    simp
  rw [e] at h1
  exact h1
theorem AmAt.elems {w : World} {n : Nat} {ls : List Ln} {W : World} (h : AmAt w n ls n W) (hn : ls.length = n) (hok : OkL ls) (h0 : 0 < n) : Elems W (some ⟨w.heap.size, 0, none⟩) n (ls.map fun x : Ln => x.v) := by
  refine ⟨by simp [hn], fun y hy => ?_, Or.inr ⟨_, 0, rfl, fun j hj => ?_⟩⟩
  · obtain ⟨x, hx, rfl⟩ := List.mem_map.1 hy
    exact (hok x hx).2.2
  · have hr := h.row
    rw [List.take_of_length_le (by omega), Nat.sub_self, List.replicate_zero, List.append_nil] at hr
    rw [Nat.zero_add, hr.cell (by simp [hn]; exact hj)]
    have hj' : j < ls.length := by omega
    simp [List.getD_eq_getElem?_getD, hj']
theorem sumI_map (ls : List Ln) : sumI (ls.map fun x : Ln => x.v) = sumV ls := by
  induction ls with
  | nil => rfl
  | cons a l ih => simp only [List.map_cons, sumI, sumV, ih]

/-- a line in a box of its own -/
structure LnBox (b : Nat) (x : Ln) (w : World) : Prop where
  c0 : w.cell? ⟨b, 0, none⟩ = some (.int .i64 x.k)
  c1 : w.cell? ⟨b, 1, none⟩ = some (.int .i64 x.o)
  c2 : w.cell? ⟨b, 2, none⟩ = some (.int .i64 x.v)
theorem box_new (w : World) (x : Ln) : LnBox w.heap.size x (w.alloc (Obj.cells #[.int .i64 x.k, .int .i64 x.o, .int .i64 x.v] 56)) := ⟨by simp, by simp, by simp⟩
theorem LnBox.up {b : Nat} {x : Ln} {w w' : World} (h : LnBox b x w) (hb : Below w.heap.size w w') : LnBox b x w' :=
  ⟨(hb.cell (p := ⟨b, 0, none⟩) (cell_lt h.c0)).trans h.c0, (hb.cell (p := ⟨b, 1, none⟩) (cell_lt h.c1)).trans h.c1, (hb.cell (p := ⟨b, 2, none⟩) (cell_lt h.c2)).trans h.c2⟩
theorem LnBox.cells {b : Nat} {x : Ln} {w : World} (h : LnBox b x w) : w.cell? ⟨b, 0, none⟩ = some (.int .i64 x.k) ∧ w.cell? ⟨b, 1, none⟩ = some (.int .i64 x.o) ∧ w.cell? ⟨b, 2, none⟩ = some (.int .i64 x.v) := ⟨h.c0, h.c1, h.c2⟩

set_option maxHeartbeats 8000000 in
theorem check10_any (a : Option Addr) (n c : Nat) (ls : List Ln) (w : World) (T : Kin w) (hl : LinesAt w a n ls) (hok : OkL ls) (hc : n ≤ c) (hn : n ≤ 1000) :
    Calls Tryd.prog 37 #[.slice a n c] w fun e w' => e = .returned (errv (checkN ls : Int)) ∧ Below w.heap.size w w' := by
  have r1 := run_neq_errv_nil
  have g1 := guard_neq_errv_nil
  have HLN := Lib.hid hl.1
  have HL := Lib.hid hl
  have HOK := Lib.hid hok
  have HT := Lib.hid T
  clear hl hok T
  by_cases h0 : n < 1
  · have HC : Hid (checkN ls = 1) := if_pos (Or.inl (by rw [HLN.out]; exact h0))
    go_enter Tryd.func37, Tryd.ntmps37
    go_wp2_with fail
    go_ret
    exact ⟨by rw [HC.out]; rfl, Below.refl _ _⟩
  · by_cases h32 : 32 < n
    · have HC : Hid (checkN ls = 1) := if_pos (Or.inr (by rw [HLN.out]; exact h32))
      go_enter Tryd.func37, Tryd.ntmps37
      go_wp2_with fail
      go_ret
      exact ⟨by rw [HC.out]; rfl, Below.refl _ _⟩
    · have HC : Hid (checkN ls = if ls.any badL = true then 1 else if sumV ls ≠ 0 then 2 else 0) := if_neg (by rw [HLN.out]; omega)
      have hm1 := run_make_row' (P := Tryd.prog) 92 2 (.int .i64 0) 8 Tryd.underlying92 info_v64 rfl .i64 .i64 n (by omega) (by omega)
      simp only [made_rep10] at hm1
      go_enter Tryd.func37, Tryd.ntmps37
      go_wp2_with fail
      go_loopw [22] (fun i wr => ∃ j : Nat, i = .int .i64 (j : Int) ∧ j ≤ n ∧ Hid (AmAt w n ls j wr) ∧ Hid ((ls.take j).any badL = false)) (fun i _ => n - (RowKit.intOf i).toNat)
      case atStart => exact ⟨0, rfl, by omega, ⟨by have h := Row.new w (List.replicate n (.int .i64 0)) 2; simpa using h, (Below.refl _ _).alloc (Nat.le_refl _) _⟩, by rw [List.take_zero]; exact rfl⟩
      case round =>
        obtain ⟨j, rfl, hj, hX, hbad⟩ := hrel
        by_cases hlt : j < n
        · have u1 : (j : Int) < (n : Int) := by omega
          obtain ⟨q, o, x, rfl, hx, hxm, x0, x1, x2⟩ := (HL.out.up hX.out.below).get hlt
          have hany := any_step10 hx
          have HX64 := Lib.hid (HOK.out x hxm)
          have HANY := Lib.hid hany
          have HXJ := Lib.hid hx
          have HBX := Lib.hid (box_new wr x)
          have hA : Below wr.heap.size wr (wr.alloc (Obj.cells #[.int .i64 x.k, .int .i64 x.o, .int .i64 x.v] 56)) := (Below.refl _ _).alloc (Nat.le_refl _) _
          replace hX := Lib.hid (hX.out.up hA)
          clear hany hx hA
          go_wp2_with fail
          refine (may_any x.k x.o _ (HT.out.of hX.out.below) HX64.out.1 HX64.out.2.1).mono ?_
          rintro e w3 ⟨rfl, hb3⟩
          replace hX := Lib.hid (hX.out.up hb3)
          replace HBX := Lib.hid (HBX.out.up hb3)
          obtain ⟨b0, b1, b2⟩ := HBX.out.cells
          clear hb3 x0 x1 x2
          by_cases hbx : badL x = true
          · have hr : Hid (checkN ls = 1) := by
              show _ = _
              rw [HC.out, if_pos]
              refine any_take10 (j := j + 1) ?_
              rw [HANY.out, hbx]
              simp
            have hcase : ¬ MayK x.k x.o ∨ (MayK x.k x.o ∧ (x.v == 0) = true) := by
              rcases (badL_iff10 x).1 hbx with h | h
              · exact Or.inl h
              · by_cases hm : MayK x.k x.o
                · exact Or.inr ⟨hm, by simp [h]⟩
                · exact Or.inl hm
            clear hbx
            rcases hcase with hm | ⟨hm, tv⟩
            all_goals
              simp only [hm, decide_true, decide_false]
              clear hm
              go_wp2_with fail
              go_ret
              exact ⟨by rw [hr.out]; rfl, hX.out.below⟩
          · have hm : MayK x.k x.o ∧ (x.v == 0) = false := by
              have := mt (badL_iff10 x).2 hbx
              simp only [not_or, Decidable.not_not] at this
              exact ⟨this.1, by simpa using this.2⟩
            have hbf : badL x = false := by simpa using hbx
            have hnew : Hid ((ls.take (j + 1)).any badL = false) := by show _ = _; rw [HANY.out, hbad.out, hbf]; rfl
            obtain ⟨hm, tv⟩ := hm
            simp only [hm, decide_true]
            have f0 := hX.out.row.frozen j
            have HXN := Lib.hid (hX.out.put HXJ.out (by rw [HLN.out]; exact hlt) HLN.out)
            have k0 := hX.out.row.cell (j := j) (by simp [HLN.out]; omega)
            clear hm hbx hbf hbad
            go_wp2_with fail
            go_roundw
            case rel => exact ⟨j + 1, by go_num, by omega, HXN, hnew⟩
            case measure => simp [RowKit.intOf]; omega
        · have u1 : ¬ (j : Int) < (n : Int) := by omega
          have hjn : ls.take j = ls := List.take_of_length_le (by rw [HLN.out]; omega)
          obtain rfl : j = n := by omega
          rw [hjn] at hbad
          have HEL : Hid (Elems wr (some ⟨w.heap.size, 0, none⟩) j (ls.map fun x : Ln => x.v)) := hX.out.elems HLN.out HOK.out (by omega)
          have HSV := Lib.hid (sumI_map ls)
          have HR2 : Hid (checkN ls = if sumV ls ≠ 0 then 2 else 0) := by
            show _ = _
            rw [HC.out, hbad.out, if_neg (by simp)]
          clear hjn hlt hbad
          go_wp2_with fail
          refine (sum_any _ j j _ _ (by omega) HEL.out).mono ?_
          rintro e w3 ⟨rfl, rfl⟩
          rw [HSV.out]
          obtain ⟨S, hS⟩ : ∃ S, sumV ls = S := ⟨_, rfl⟩
          rw [hS] at HR2 ⊢
          clear hS HSV HEL
          by_cases hin : -9223372036854775808 ≤ S ∧ S ≤ 9223372036854775807
          · obtain ⟨q1, q2⟩ := ov_in hin
            rw [q1, q2]
            clear q1 q2
            by_cases h0 : S = 0
            · subst h0
              have HR3 : Hid (checkN ls = 0) := by show _ = _; rw [HR2.out]; rfl
              go_wp2_with fail
              go_ret
              exact ⟨by rw [HR3.out]; rfl, hX.out.below⟩
            · have HR3 : Hid (checkN ls = 2) := by show _ = _; rw [HR2.out, if_pos h0]
              have h1 : (S != 0) = true := by simpa using h0
              clear h0
              go_wp2_with fail
              go_ret
              exact ⟨by rw [HR3.out]; rfl, hX.out.below⟩
          · obtain ⟨q1, q2⟩ := ov_out hin
            rw [q1, q2]
            clear q1 q2
            have HR3 : Hid (checkN ls = 2) := by show _ = _; rw [HR2.out, if_pos (by omega)]
            go_wp2_with fail
            go_ret
            exact ⟨by rw [HR3.out]; rfl, hX.out.below⟩
end Go.Proofs.YtcdkgfjjgebcnaaDoor
