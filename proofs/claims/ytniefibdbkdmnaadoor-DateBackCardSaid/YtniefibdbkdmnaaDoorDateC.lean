/- What is asked of package date's calls; dates held against each other; the examples at the head of layer 4's statements. -/
import Derived.Test.YtniefibdbkdmnaaDoorMon
import Derived.Laws.StructEq
import Derived.RegionTactic
import Derived.Deep.RegionLaw
namespace Go.Proofs.YtniefibdbkdmnaaDoor
open Go Go.RowKit
set_option linter.unusedVariables false

theorem run_eql_date (w : World) (y m d y' m' d' : Int) :
    (binOp .eql 23 (.agg #[.int .i64 y, .int .i64 m, .int .i64 d]) (.agg #[.int .i64 y', .int .i64 m', .int .i64 d'])).run Tryd.prog w = .ok (.bool (y == y' && m == m' && d == d')) w := by
  have u3 := Tryd.underlying3
  have a3 := Tryd.isAgg3
  have z3 := Tryd.sizeOf3
  have hS : Tryd.prog.underlying 23 = some (.struct (Tryd.prog.fieldsOf 23)) := by kernel_rfl
  have hp : Tryd.prog.stoodInHeld 23 = false := by kernel_rfl
  rw [run_eql_struct, show (10000 : Nat) = 9999 + 1 from rfl, run_equalIn_agg w 9999 23 _ _ hS hp]
  simp only [Program.fieldsOf, Tryd.underlying23]
  go_simp
  by_cases h1 : y = y' <;> by_cases h2 : m = m' <;> by_cases h3 : d = d' <;> simp [h1, h2, h3]

theorem run_guard_date (w : World) (x z : Operand) (xs ys : Array Value) : (eqGuard .eql 23 x z (.agg xs) (.agg ys)).run Tryd.prog w = .ok () w := run_eqGuard_agg w .eql 23 x z xs ys (by kernel_rfl)

theorem build_date (y m d : Int) (w : World) : (Instr.build 23 #[(0, .int .i64 y), (1, .int .i64 m), (2, .int .i64 d)]).run Tryd.prog w = .ok (.agg #[.int .i64 y, .int .i64 m, .int .i64 d]) w :=
  run_build w 23 _ _ (by kernel_rfl)
theorem build_none (w : World) : (Instr.build 23 #[]).run Tryd.prog w = .ok (.agg #[.int .i64 0, .int .i64 0, .int .i64 0]) w :=
  run_build w 23 _ _ (by kernel_rfl)

theorem box_cells {w w1 : World} {y m d : Int} (hb : Below (w.alloc (Obj.cells #[.int .i64 y, .int .i64 m, .int .i64 d] 23)).heap.size (w.alloc (Obj.cells #[.int .i64 y, .int .i64 m, .int .i64 d] 23)) w1) :
    w1.cell? ⟨w.heap.size, 0, none⟩ = some (.int .i64 y) ∧ w1.cell? ⟨w.heap.size, 1, none⟩ = some (.int .i64 m) ∧ w1.cell? ⟨w.heap.size, 2, none⟩ = some (.int .i64 d) := by
  rw [World.size_alloc] at hb
  exact (date_cell hb).1

/-- an error of api -/
abbrev errC (k : Int) : Value := .iface 31 (.int .i64 k)

/-- the contracts of package date -/
structure DateC : Prop where
  may : ∀ (y m d : Int) (w : World), Mon w → Calls Tryd.prog 9 #[.agg #[.int .i64 y, .int .i64 m, .int .i64 d]] w fun e w' => e = .returned (.bool (decide (mayD y m d))) ∧ Below w.heap.size w w'
  number : ∀ (y m d : Int) (w : World), Mon w → Calls Tryd.prog 13 #[.agg #[.int .i64 y, .int .i64 m, .int .i64 d]] w fun e w' => Below w.heap.size w w' ∧
    ((mayD y m d ∧ e = .returned (.tuple #[.int .i64 (numD y m d), .nilIface])) ∨ (¬ mayD y m d ∧ e = .returned (.tuple #[.int .i64 0, errC 2])))
  months : ∀ (y m d n : Int) (w : World), Mon w → -9223372036854775808 ≤ n → n ≤ 9223372036854775807 → Calls Tryd.prog 17 #[.agg #[.int .i64 y, .int .i64 m, .int .i64 d], .int .i64 n] w fun e w' => Below w.heap.size w w' ∧
    ((¬ mayD y m d ∧ e = .returned (.tuple #[.agg #[.int .i64 0, .int .i64 0, .int .i64 0], errC 2])) ∨ (mayD y m d ∧ noMv y m n ∧ e = .returned (.tuple #[.agg #[.int .i64 0, .int .i64 0, .int .i64 0], errC 1])) ∨
     (mayD y m d ∧ ¬ noMv y m n ∧ e = .returned (.tuple #[.agg #[.int .i64 (mvY y m n), .int .i64 (mvM y m n), .int .i64 (mvD y m d n)], .nilIface])))
  weekday : ∀ (y m d : Int) (w : World), Mon w → Calls Tryd.prog 18 #[.agg #[.int .i64 y, .int .i64 m, .int .i64 d]] w fun e w' => Below w.heap.size w w' ∧
    ((mayD y m d ∧ e = .returned (.tuple #[.int .i64 ((numD y m d + 4) % 7), .nilIface])) ∨ (¬ mayD y m d ∧ e = .returned (.tuple #[.int .i64 0, errC 2])))

  of : ∀ (n : Int) (w : World), Mon w → -9223372036854775808 ≤ n → n ≤ 9223372036854775807 → Calls Tryd.prog 15 #[.int .i64 n] w fun e w' => Below w.heap.size w w' ∧
    ((-25567 ≤ n ∧ n ≤ 84005 ∧ ∃ y m d : Int, e = .returned (.tuple #[.agg #[.int .i64 y, .int .i64 m, .int .i64 d], .nilIface]) ∧ mayD y m d ∧ numD y m d = n) ∨
     ((n < -25567 ∨ 84005 < n) ∧ e = .returned (.tuple #[.agg #[.int .i64 0, .int .i64 0, .int .i64 0], errC 1])))
  days : ∀ (y m : Int) (w : World), Mon w → Calls Tryd.prog 11 #[.int .i64 y, .int .i64 m] w fun e w' => e = .returned (.int .i64 (dm y m)) ∧ w' = w
  last : ∀ (y m d : Int) (w : World), Mon w → Calls Tryd.prog 19 #[.agg #[.int .i64 y, .int .i64 m, .int .i64 d]] w fun e w' => Below w.heap.size w w' ∧
    ((mayD y m d ∧ e = .returned (.tuple #[.agg #[.int .i64 y, .int .i64 m, .int .i64 (dm y m)], .nilIface])) ∨ (¬ mayD y m d ∧ e = .returned (.tuple #[.agg #[.int .i64 0, .int .i64 0, .int .i64 0], errC 2])))

theorem up_moves : mayD 2024 1 31 ∧ ¬ noMv 2024 1 1 ∧ mvY 2024 1 1 = 2024 ∧ mvM 2024 1 1 = 2 ∧ mvD 2024 1 31 1 = 29 := by unfold noMv; decide +kernel
theorem up_may : mayD 2024 2 29 ∧ mayD 1970 1 1 ∧ mayD 2026 11 15 ∧ numD 1970 1 1 = 0 ∧ (numD 2026 11 15 + 4) % 7 = 0 := by decide +kernel

set_option maxHeartbeats 2000000 in
theorem up04_any (DC : Hid DateC) (w : World) (T : Mon w) : Calls Tryd.prog 8 #[] w fun e w' => e = .returned (.bool true) ∧ Below w.heap.size w w' := by
  have re := run_eql_date
  have rg := run_guard_date
  have rb := build_date
  obtain ⟨a1, a2, a3, a4, a5⟩ := up_moves
  obtain ⟨b1, b2, b3, b4, b5⟩ := up_may
  have A1 := Lib.hid a1
  have A2 := Lib.hid a2
  have A3 := Lib.hid (And.intro a3 (And.intro a4 a5))
  have B2 := Lib.hid b2
  have B3 := Lib.hid b3
  have B4 := Lib.hid b4
  have B5 := Lib.hid b5
  have B1 := Lib.hid (decide_eq_true b1)
  clear a1 a2 a3 a4 a5 b1 b2 b3 b4 b5
  go_enter Tryd.func8, Tryd.ntmps8
  go_wp2_with fail
  refine (DC.out.months 2024 1 31 1 _ T (by omega) (by omega)).mono ?_
  rintro e w1 ⟨hb1, ⟨h, -⟩ | ⟨-, h, -⟩ | ⟨-, -, rfl⟩⟩
  · exact absurd A1.out h
  · exact absurd h A2.out
  rw [A3.out.1, A3.out.2.1, A3.out.2.2]
  have HB1 := Lib.hid (hb1.alloc hb1.size (Obj.cells #[.int .i64 2024, .int .i64 2, .int .i64 29] 23))
  have T2 := T.of HB1.out
  clear hb1
  go_wp2_with fail
  refine (DC.out.number 1970 1 1 _ T2).mono ?_
  rintro e w2 ⟨hb2, hor⟩
  obtain rfl : e = .returned (.tuple #[.int .i64 0, .nilIface]) := by
    rcases hor with ⟨_, h⟩ | ⟨h, _⟩
    · rw [h, B4.out]
    · exact absurd B2.out h
  clear hor
  have HB2 := Lib.hid hb2
  have T3 := T2.of hb2
  clear hb2
  go_wp2_with fail
  refine (DC.out.weekday 2026 11 15 _ T3).mono ?_
  rintro e w3 ⟨hb3, hor⟩
  obtain rfl : e = .returned (.tuple #[.int .i64 0, .nilIface]) := by
    rcases hor with ⟨_, h⟩ | ⟨h, _⟩
    · rw [h, B5.out]
    · exact absurd B3.out h
  clear hor
  have hb := HB2.out.trans (hb3.mono HB2.out.size)
  rw [World.size_alloc] at hb
  obtain ⟨⟨c0, c1, c2⟩, -⟩ := date_cell hb
  have HB3 := Lib.hid (HB1.out.trans (hb.mono (Nat.le_trans HB1.out.size (by simp))))
  have T4 := T.of HB3.out
  clear hb hb3
  go_wp2_with fail
  refine (DC.out.may 2024 2 29 _ T4).mono ?_
  rintro e w4 ⟨rfl, hb4⟩
  rw [B1.out]
  have HB4 := Lib.hid (HB3.out.trans (hb4.mono HB3.out.size))
  clear hb4
  go_wp2_with fail
  go_ret
  exact ⟨rfl, HB4.out⟩
end Go.Proofs.YtniefibdbkdmnaaDoor
