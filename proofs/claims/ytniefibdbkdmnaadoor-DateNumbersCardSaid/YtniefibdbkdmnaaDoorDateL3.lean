/- The walk of DateNumbers: any date's number, and any number's date. -/
import Derived.Test.YtniefibdbkdmnaaDoorDateL2
namespace Go.Proofs.YtniefibdbkdmnaaDoor
open Go Go.RowKit
set_option linter.unusedVariables false

/-- what both answers tell of a number's date -/
theorem of_same {n y m d y' m' d' : Int} (h : mayD y m d) (hn : numD y m d = n) (h' : mayD y' m' d') (hn' : numD y' m' d' = n) : y = y' ∧ m = m' ∧ d = d' := num_one h h' (by omega)

theorem run_neq_same (w : World) (k : Int) : (binOp .neq 28 (errC k) (errC k)).run Tryd.prog w = .ok (.bool false) w := by
  rw [Lib.run_neq_iface_int w k k err_under code_comp code_under]; simp
theorem run_eql_same (w : World) (k : Int) : (binOp .eql 28 (errC k) (errC k)).run Tryd.prog w = .ok (.bool true) w := by
  rw [run_eql_code]; simp

set_option maxHeartbeats 4000000 in
theorem dateNumbers_walk (DC : Hid DateC) (y m d n : Int) (n0 : -9223372036854775808 ≤ n) (n1 : n ≤ 9223372036854775807) (w : World) (T : Mon w) :
    Calls Tryd.prog 4 #[.agg #[.int .i64 y, .int .i64 m, .int .i64 d], .int .i64 n] w fun e w' => e = .returned (.bool true) ∧ Below w.heap.size w w' := by
  have re := run_eql_date
  have rg := run_guard_date
  have rb := build_date
  have rn := build_none
  have rc := run_neq_same
  have rd := run_eql_same
  have HX := Lib.hid (Box3.new T y m d)
  clear T
  go_enter Tryd.func4, Tryd.ntmps4
  go_wp2_with fail
  refine (up04_any DC _ HX.out.mon).mono ?_
  rintro e w1 ⟨rfl, hb1⟩
  have hX := Lib.hid (HX.out.call hb1)
  obtain ⟨c0, c1, c2⟩ := hX.out.s
  clear hb1 HX
  go_wp2_with fail
  refine (DC.out.number y m d _ hX.out.mon).mono ?_
  rintro e w2 ⟨hb2, hor⟩
  have HX2 := Lib.hid (hX.out.call hb2)
  clear hb2 hX c0 c1 c2
  obtain ⟨c0, c1, c2⟩ := HX2.out.s
  rcases hor with ⟨hm, rfl⟩ | ⟨hm, rfl⟩
  · have HM := Lib.hid hm
    have HD := Lib.hid (decide_eq_true hm)
    obtain ⟨k, hk⟩ : ∃ k, numD y m d = k := ⟨_, rfl⟩
    rw [hk]
    have HK := Lib.hid hk
    have t0 : (k != k) = false := by simp
    clear hm hk
    go_wp2_with fail
    refine (refMayD_any y m d true HD.out _).mono ?_
    rintro e w3 ⟨rfl, hb3⟩
    have HX3 := Lib.hid (HX2.out.call hb3)
    clear hb3 HX2 c0 c1 c2
    obtain ⟨c0, c1, c2⟩ := HX3.out.s
    go_wp2_with fail
    refine (refNumber_any y m d k HM.out HK.out _).mono ?_
    rintro e w4 ⟨rfl, hb4⟩
    have HX4 := Lib.hid (HX3.out.call hb4)
    clear hb4 HX3 c0 c1 c2
    obtain ⟨c0, c1, c2⟩ := HX4.out.s
    go_wp2_with fail
    refine (DC.out.of n _ HX4.out.mon n0 n1).mono ?_
    rintro e w5 ⟨hb5, ⟨l0, l1, y1, m1, d1, rfl, hmay1, hnum1⟩ | ⟨hout, rfl⟩⟩
    · have HX5 := Lib.hid ((HX4.out.call hb5).alloc (Obj.cells #[.int .i64 y1, .int .i64 m1, .int .i64 d1] 23))
      have HM1 := Lib.hid hmay1
      have HN1 := Lib.hid hnum1
      clear hb5 hmay1 hnum1 HX4 c0 c1 c2
      go_wp2_with fail
      refine (refOf_yes n l0 l1 _).mono ?_
      rintro e w6 ⟨⟨y2, m2, d2, rfl, hmay2, hnum2⟩, hb6⟩
      obtain ⟨rfl, rfl, rfl⟩ := of_same HM1.out HN1.out hmay2 hnum2
      have HX6 := Lib.hid ((HX5.out.call hb6).alloc (Obj.cells #[.int .i64 y1, .int .i64 m1, .int .i64 d1] 23))
      obtain ⟨e0, e1, e2⟩ := box_cells hb6
      have hz : w5.heap.size < w6.heap.size := by have := hb6.size; simp at this; omega
      clear hb6 hmay2 hnum2 HX5 HM1 HN1
      go_wp2_with fail
      go_ret
      exact ⟨by simp, HX6.out.below⟩
    · have HX5 := Lib.hid ((HX4.out.call hb5).alloc (Obj.cells #[.int .i64 0, .int .i64 0, .int .i64 0] 23))
      have HO := Lib.hid hout
      clear hb5 HX4 c0 c1 c2 hout
      go_wp2_with fail
      refine (refOf_no n HO.out _).mono ?_
      rintro e w6 ⟨rfl, hb6⟩
      have HX6 := Lib.hid ((HX5.out.call hb6).alloc (Obj.cells #[.int .i64 0, .int .i64 0, .int .i64 0] 23))
      obtain ⟨e0, e1, e2⟩ := box_cells hb6
      have hz : w5.heap.size < w6.heap.size := by have := hb6.size; simp at this; omega
      clear hb6 HX5
      go_wp2_with fail
      go_ret
      exact ⟨by simp, HX6.out.below⟩
  · have HM := Lib.hid hm
    have HD := Lib.hid (decide_eq_false hm)
    clear hm
    go_wp2_with fail
    refine (refMayD_any y m d false HD.out _).mono ?_
    rintro e w3 ⟨rfl, hb3⟩
    have HX3 := Lib.hid (HX2.out.call hb3)
    clear hb3 HX2 c0 c1 c2
    obtain ⟨c0, c1, c2⟩ := HX3.out.s
    go_wp2_with fail
    refine (DC.out.of n _ HX3.out.mon n0 n1).mono ?_
    rintro e w5 ⟨hb5, ⟨l0, l1, y1, m1, d1, rfl, hmay1, hnum1⟩ | ⟨hout, rfl⟩⟩
    · have HX5 := Lib.hid ((HX3.out.call hb5).alloc (Obj.cells #[.int .i64 y1, .int .i64 m1, .int .i64 d1] 23))
      have HM1 := Lib.hid hmay1
      have HN1 := Lib.hid hnum1
      clear hb5 hmay1 hnum1 HX3 c0 c1 c2
      go_wp2_with fail
      refine (refOf_yes n l0 l1 _).mono ?_
      rintro e w6 ⟨⟨y2, m2, d2, rfl, hmay2, hnum2⟩, hb6⟩
      obtain ⟨rfl, rfl, rfl⟩ := of_same HM1.out HN1.out hmay2 hnum2
      have HX6 := Lib.hid ((HX5.out.call hb6).alloc (Obj.cells #[.int .i64 y1, .int .i64 m1, .int .i64 d1] 23))
      obtain ⟨e0, e1, e2⟩ := box_cells hb6
      have hz : w5.heap.size < w6.heap.size := by have := hb6.size; simp at this; omega
      clear hb6 hmay2 hnum2 HX5 HM1 HN1
      go_wp2_with fail
      go_ret
      exact ⟨by simp, HX6.out.below⟩
    · have HX5 := Lib.hid ((HX3.out.call hb5).alloc (Obj.cells #[.int .i64 0, .int .i64 0, .int .i64 0] 23))
      have HO := Lib.hid hout
      clear hb5 HX3 c0 c1 c2 hout
      go_wp2_with fail
      refine (refOf_no n HO.out _).mono ?_
      rintro e w6 ⟨rfl, hb6⟩
      have HX6 := Lib.hid ((HX5.out.call hb6).alloc (Obj.cells #[.int .i64 0, .int .i64 0, .int .i64 0] 23))
      obtain ⟨e0, e1, e2⟩ := box_cells hb6
      have hz : w5.heap.size < w6.heap.size := by have := hb6.size; simp at this; omega
      clear hb6 HX5
      go_wp2_with fail
      go_ret
      exact ⟨by simp, HX6.out.below⟩
end Go.Proofs.YtniefibdbkdmnaaDoor
