/- The walk of DateMoves: the day any months behind, the weekday, and the last day of the month, of any date. -/
import Derived.Test.YtniefibdbkdmnaaDoorBoxes
namespace Go.Proofs.YtniefibdbkdmnaaDoor
open Go Go.RowKit
set_option linter.unusedVariables false

theorem refMonths_any (y m d n : Int) (hd : mayD y m d) (w : World) :
    Calls Tryd.prog 20 #[.agg #[.int .i64 y, .int .i64 m, .int .i64 d], .int .i64 n] w (MonthsTo y m d n w) := by
  by_cases h : n < -3600 ∨ 3600 < n
  · exact refMonths_far y m d n h w
  · exact refMonths_near y m d n hd (by omega) (by omega) w

set_option maxRecDepth 100000 in
set_option maxHeartbeats 4000000 in
theorem dateMoves_no (DC : Hid DateC) (y m d n : Int) (hm : ¬ mayD y m d) (n0 : -9223372036854775808 ≤ n) (n1 : n ≤ 9223372036854775807) (w : World) (T : Mon w) :
    Calls Tryd.prog 5 #[.agg #[.int .i64 y, .int .i64 m, .int .i64 d], .int .i64 n] w fun e w' => e = .returned (.bool true) ∧ Below w.heap.size w w' := by
  have re := run_eql_date
  have rg := run_guard_date
  have rb := build_date
  have rn := build_none
  have rd := run_eql_same
  have HM := Lib.hid hm
  have HD := Lib.hid (decide_eq_false hm)
  have HB := Lib.hid ((Base.refl T).alloc (Obj.cells #[.int .i64 y, .int .i64 m, .int .i64 d] 23))
  have HX := Lib.hid (At3.new w y m d)
  clear T hm
  go_enter Tryd.func5, Tryd.ntmps5
  go_wp2_with fail
  refine (up04_any DC _ HB.out.mon).mono ?_
  rintro e w1 ⟨rfl, hb1⟩
  have HB1 := Lib.hid (HB.out.call hb1)
  have HX1 := Lib.hid (HX.out.call hb1)
  obtain ⟨c0, c1, c2⟩ := HX1.out.s
  clear hb1 HB HX
  go_wp2_with fail
  refine (DC.out.months y m d n _ HB1.out.mon n0 n1).mono ?_
  rintro e w2 ⟨hb2, ⟨_, rfl⟩ | ⟨h, _⟩ | ⟨h, _⟩⟩
  rotate_left
  · exact absurd h HM.out
  · exact absurd h HM.out
  have HB2 := Lib.hid ((HB1.out.call hb2).alloc (Obj.cells #[.int .i64 0, .int .i64 0, .int .i64 0] 23))
  have HX2 := Lib.hid ((HX1.out.call hb2).alloc (Obj.cells #[.int .i64 0, .int .i64 0, .int .i64 0] 23))
  have HY2 := Lib.hid (At3.new w2 0 0 0)
  have z2 : w.heap.size < w2.heap.size := (HX1.out.call hb2).lt
  clear hb2 HB1 HX1 c0 c1 c2
  obtain ⟨c0, c1, c2⟩ := HX2.out.s
  go_wp2_with fail
  refine (DC.out.weekday y m d _ HB2.out.mon).mono ?_
  rintro e w3 ⟨hb3, ⟨h, _⟩ | ⟨_, rfl⟩⟩
  · exact absurd h HM.out
  have HB3 := Lib.hid (HB2.out.call hb3)
  have HX3 := Lib.hid (HX2.out.call hb3)
  have HY3 := Lib.hid (HY2.out.call hb3)
  clear hb3 HB2 HX2 HY2 c0 c1 c2
  obtain ⟨c0, c1, c2⟩ := HX3.out.s
  go_wp2_with fail
  refine (DC.out.last y m d _ HB3.out.mon).mono ?_
  rintro e w4 ⟨hb4, ⟨h, _⟩ | ⟨_, rfl⟩⟩
  · exact absurd h HM.out
  have HB4 := Lib.hid ((HB3.out.call hb4).alloc (Obj.cells #[.int .i64 0, .int .i64 0, .int .i64 0] 23))
  have HX4 := Lib.hid ((HX3.out.call hb4).alloc (Obj.cells #[.int .i64 0, .int .i64 0, .int .i64 0] 23))
  have HY4 := Lib.hid ((HY3.out.call hb4).alloc (Obj.cells #[.int .i64 0, .int .i64 0, .int .i64 0] 23))
  have HL4 := Lib.hid (At3.new w4 0 0 0)
  clear hb4 HB3 HX3 HY3 c0 c1 c2
  obtain ⟨c0, c1, c2⟩ := HX4.out.s
  go_wp2_with fail
  refine (refMayD_any y m d false HD.out _).mono ?_
  rintro e w5 ⟨rfl, hb5⟩
  have HB5 := Lib.hid (HB4.out.call hb5)
  obtain ⟨b0, b1, b2⟩ := (HY4.out.call hb5).s
  obtain ⟨l0, l1, l2⟩ := (HL4.out.call hb5).s
  clear hb5 HB4 HX4 HY4 HL4 c0 c1 c2
  go_wp2_with fail
  go_ret
  exact ⟨by simp, HB5.out.below⟩

set_option maxRecDepth 100000 in
set_option maxHeartbeats 4000000 in
theorem dateMoves_yes (DC : Hid DateC) (y m d n : Int) (hm : mayD y m d) (n0 : -9223372036854775808 ≤ n) (n1 : n ≤ 9223372036854775807) (w : World) (T : Mon w) :
    Calls Tryd.prog 5 #[.agg #[.int .i64 y, .int .i64 m, .int .i64 d], .int .i64 n] w fun e w' => e = .returned (.bool true) ∧ Below w.heap.size w w' := by
  have re := run_eql_date
  have rg := run_guard_date
  have re2 := run_neq_date
  have rg2 := run_guard_ndate
  have rb := build_date
  have rn := build_none
  have rd := run_eql_same
  have HM := Lib.hid hm
  have HD := Lib.hid (decide_eq_true hm)
  have HB := Lib.hid ((Base.refl T).alloc (Obj.cells #[.int .i64 y, .int .i64 m, .int .i64 d] 23))
  have HX := Lib.hid (At3.new w y m d)
  obtain ⟨k, hk⟩ : ∃ k, numD y m d = k := ⟨_, rfl⟩
  obtain ⟨k0, k1⟩ := num_bound hm
  rw [hk] at k0 k1
  obtain ⟨v, hv⟩ : ∃ v, dm y m = v := ⟨_, rfl⟩
  have HK := Lib.hid hk
  have HV := Lib.hid hv
  obtain ⟨r, hr⟩ : ∃ r, (k + 4) % 7 = r := ⟨_, rfl⟩
  have hr2 : (k + 4 + 700000) % 7 = r := by omega
  have HR := Lib.hid hr
  have t0 : (r != r) = false := by simp
  clear T hm hk hv hr
  go_enter Tryd.func5, Tryd.ntmps5
  go_wp2_with fail
  refine (up04_any DC _ HB.out.mon).mono ?_
  rintro e w1 ⟨rfl, hb1⟩
  have HB1 := Lib.hid (HB.out.call hb1)
  have HX1 := Lib.hid (HX.out.call hb1)
  obtain ⟨c0, c1, c2⟩ := HX1.out.s
  clear hb1 HB HX
  go_wp2_with fail
  refine (DC.out.months y m d n _ HB1.out.mon n0 n1).mono ?_
  rintro e w2 ⟨hb2, hor⟩
  obtain ⟨p0, p1, p2, er, he, hcase⟩ : ∃ p0 p1 p2 er, e = .returned (.tuple #[.agg #[.int .i64 p0, .int .i64 p1, .int .i64 p2], er]) ∧ Hid ((noMv y m n ∧ p0 = 0 ∧ p1 = 0 ∧ p2 = 0 ∧ er = errC 1) ∨ (¬ noMv y m n ∧ p0 = mvY y m n ∧ p1 = mvM y m n ∧ p2 = mvD y m d n ∧ er = .nilIface)) := by
    rcases hor with ⟨h, _⟩ | ⟨_, h, rfl⟩ | ⟨_, h, rfl⟩
    · exact absurd HM.out h
    · exact ⟨0, 0, 0, _, rfl, Or.inl ⟨h, rfl, rfl, rfl, rfl⟩⟩
    · exact ⟨_, _, _, _, rfl, Or.inr ⟨h, rfl, rfl, rfl, rfl⟩⟩
  subst he
  have HB2 := Lib.hid ((HB1.out.call hb2).alloc (Obj.cells #[.int .i64 p0, .int .i64 p1, .int .i64 p2] 23))
  have HX2 := Lib.hid ((HX1.out.call hb2).alloc (Obj.cells #[.int .i64 p0, .int .i64 p1, .int .i64 p2] 23))
  have HY2 := Lib.hid (At3.new w2 p0 p1 p2)
  have z2 : w.heap.size < w2.heap.size := (HX1.out.call hb2).lt
  clear hb2 HB1 HX1 c0 c1 c2 hor
  obtain ⟨c0, c1, c2⟩ := HX2.out.s
  go_wp2_with fail
  refine (DC.out.weekday y m d _ HB2.out.mon).mono ?_
  rintro e w3 ⟨hb3, ⟨_, rfl⟩ | ⟨h, _⟩⟩
  rotate_left
  · exact absurd HM.out h
  rw [HK.out, HR.out]
  have HB3 := Lib.hid (HB2.out.call hb3)
  have HX3 := Lib.hid (HX2.out.call hb3)
  have HY3 := Lib.hid (HY2.out.call hb3)
  clear hb3 HB2 HX2 HY2 c0 c1 c2
  obtain ⟨c0, c1, c2⟩ := HX3.out.s
  go_wp2_with fail
  refine (DC.out.last y m d _ HB3.out.mon).mono ?_
  rintro e w4 ⟨hb4, ⟨_, rfl⟩ | ⟨h, _⟩⟩
  rotate_left
  · exact absurd HM.out h
  rw [HV.out]
  have HB4 := Lib.hid ((HB3.out.call hb4).alloc (Obj.cells #[.int .i64 y, .int .i64 m, .int .i64 v] 23))
  have HX4 := Lib.hid ((HX3.out.call hb4).alloc (Obj.cells #[.int .i64 y, .int .i64 m, .int .i64 v] 23))
  have HY4 := Lib.hid ((HY3.out.call hb4).alloc (Obj.cells #[.int .i64 y, .int .i64 m, .int .i64 v] 23))
  have HL4 := Lib.hid (At3.new w4 y m v)
  have z4 : w2.heap.size < w4.heap.size := (HY3.out.call hb4).lt
  clear hb4 HB3 HX3 HY3 c0 c1 c2
  obtain ⟨c0, c1, c2⟩ := HX4.out.s
  go_wp2_with fail
  refine (refMayD_any y m d true HD.out _).mono ?_
  rintro e w5 ⟨rfl, hb5⟩
  have HB5 := Lib.hid (HB4.out.call hb5)
  have HX5 := Lib.hid (HX4.out.call hb5)
  have HY5 := Lib.hid (HY4.out.call hb5)
  have HL5 := Lib.hid (HL4.out.call hb5)
  clear hb5 HB4 HX4 HY4 HL4 c0 c1 c2
  obtain ⟨c0, c1, c2⟩ := HX5.out.s
  go_wp2_with fail
  refine (refNumber_any y m d k HM.out HK.out _).mono ?_
  rintro e w6 ⟨rfl, hb6⟩
  have HB6 := Lib.hid (HB5.out.call hb6)
  have HX6 := Lib.hid (HX5.out.call hb6)
  have HY6 := Lib.hid (HY5.out.call hb6)
  have HL6 := Lib.hid (HL5.out.call hb6)
  clear hb6 HB5 HX5 HY5 HL5 c0 c1 c2
  obtain ⟨c0, c1, c2⟩ := HX6.out.s
  obtain ⟨l0, l1, l2⟩ := HL6.out.s
  go_wp2_with fail
  go_quiet ((go_at_call 12; exact Calls.quiet_of_same (refDays_any y m v HV.out _)))
  go_wp2_with fail
  refine (refMonths_any y m d n HM.out _).mono ?_
  rintro e w7 ⟨hb7, hor⟩
  obtain ⟨q0, q1, q2, ok, he, hcase2⟩ : ∃ q0 q1 q2 ok, e = .returned (.tuple #[.agg #[.int .i64 q0, .int .i64 q1, .int .i64 q2], .bool ok]) ∧ Hid ((er = errC 1 ∧ p0 = 0 ∧ p1 = 0 ∧ p2 = 0 ∧ ok = false) ∨ (er = .nilIface ∧ q0 = p0 ∧ q1 = p1 ∧ q2 = p2 ∧ ok = true)) := by
    rcases hcase.out with ⟨h1, a0, a1, a2, a3⟩ | ⟨h1, a0, a1, a2, a3⟩ <;> rcases hor with ⟨h2, rfl⟩ | ⟨h2, rfl⟩
    · exact ⟨0, 0, 0, false, rfl, Or.inl ⟨a3, a0, a1, a2, rfl⟩⟩
    · exact absurd h1 h2
    · exact absurd h2 h1
    · exact ⟨_, _, _, true, rfl, Or.inr ⟨a3, a0.symm, a1.symm, a2.symm, rfl⟩⟩
  subst he
  have HB7 := Lib.hid (HB6.out.call (w1 := w6) (by first | exact hb7 | exact (below_drewN (Below.refl _ _) _).trans hb7))
  have HY7 := Lib.hid (HY6.out.call (w1 := w6) (by first | exact hb7 | exact (below_drewN (Below.refl _ _) _).trans hb7))
  have z7 : w2.heap.size < w7.heap.size := HY7.out.lt
  obtain ⟨b0, b1, b2⟩ := HY7.out.s
  clear hb7 hor HB6 HX6 HY6 HL6 c0 c1 c2 l0 l1 l2
  rcases hcase2.out with ⟨rfl, rfl, rfl, rfl, rfl⟩ | ⟨rfl, rfl, rfl, rfl, rfl⟩
  · clear hcase hcase2
    go_wp2_with fail
    go_ret
    exact ⟨by simp, (HB7.out.alloc _).below⟩
  · clear hcase hcase2
    go_wp2_with fail
    go_ret
    exact ⟨by simp, (HB7.out.alloc _).below⟩

theorem dateMoves_walk (DC : Hid DateC) (y m d n : Int) (n0 : -9223372036854775808 ≤ n) (n1 : n ≤ 9223372036854775807) (w : World) (T : Mon w) :
    Calls Tryd.prog 5 #[.agg #[.int .i64 y, .int .i64 m, .int .i64 d], .int .i64 n] w fun e w' => e = .returned (.bool true) ∧ Below w.heap.size w w' := by
  by_cases h : mayD y m d
  · exact dateMoves_yes DC y m d n h n0 n1 w T
  · exact dateMoves_no DC y m d n h n0 n1 w T
end Go.Proofs.YtniefibdbkdmnaaDoor
