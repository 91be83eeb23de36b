/- What is asked of package date's calls; dates held against each other; the examples at the head of layer 4's statements. -/
import Derived.Test.YtpddnmkoiplmkaaDoorMon
import Derived.Laws.StructEq
import Derived.RegionTactic
import Derived.Deep.RegionLaw
namespace Go.Proofs.YtpddnmkoiplmkaaDoor
open Go Go.RowKit
set_option linter.unusedVariables false

theorem run_eql_date (w : World) (y m d y' m' d' : Int) :
    (binOp .eql 23 (.agg #[.int .i64 y, .int .i64 m, .int .i64 d]) (.agg #[.int .i64 y', .int .i64 m', .int .i64 d'])).run Tryd.prog w = .ok (.bool (y == y' && m == m' && d == d')) w := by
  have u3 := Tryd.underlying3
  have a3 := Tryd.isAgg3
  have z3 := Tryd.sizeOf3
  have hS : Tryd.prog.underlying 23 = some (.struct (Tryd.prog.fieldsOf 23)) := by kernel_rfl
  have hp : Tryd.prog.stoodInHeld 23 = false := by kernel_rfl
  rw [run_eql_struct, show (10000 : Nat) = 9999 + 1 from rfl, run_equalIn_agg w 9999 23 _ _ hS hp]
  simp only [Program.fieldsOf, Tryd.underlying23]
  go_simp
  by_cases h1 : y = y' <;> by_cases h2 : m = m' <;> by_cases h3 : d = d' <;> simp [h1, h2, h3]

theorem run_guard_date (w : World) (x z : Operand) (xs ys : Array Value) : (eqGuard .eql 23 x z (.agg xs) (.agg ys)).run Tryd.prog w = .ok () w := run_eqGuard_agg w .eql 23 x z xs ys (by kernel_rfl)

theorem build_date (y m d : Int) (w : World) : (Instr.build 23 #[(0, .int .i64 y), (1, .int .i64 m), (2, .int .i64 d)]).run Tryd.prog w = .ok (.agg #[.int .i64 y, .int .i64 m, .int .i64 d]) w :=
  run_build w 23 _ _ (by kernel_rfl)
theorem build_none (w : World) : (Instr.build 23 #[]).run Tryd.prog w = .ok (.agg #[.int .i64 0, .int .i64 0, .int .i64 0]) w :=
  run_build w 23 _ _ (by kernel_rfl)

theorem box_cells {w w1 : World} {y m d : Int} (hb : Below (w.alloc (Obj.cells #[.int .i64 y, .int .i64 m, .int .i64 d] 23)).heap.size (w.alloc (Obj.cells #[.int .i64 y, .int .i64 m, .int .i64 d] 23)) w1) :
    w1.cell? ⟨w.heap.size, 0, none⟩ = some (.int .i64 y) ∧ w1.cell? ⟨w.heap.size, 1, none⟩ = some (.int .i64 m) ∧ w1.cell? ⟨w.heap.size, 2, none⟩ = some (.int .i64 d) := by
  rw [World.size_alloc] at hb
  exact (date_cell hb).1

/-- an error of api -/
abbrev errC (k : Int) : Value := .iface 30 (.int .i64 k)

/-- the contracts of package date -/
structure DateC : Prop where
  may : ∀ (y m d : Int) (w : World), Mon w → Calls Tryd.prog 29 #[.agg #[.int .i64 y, .int .i64 m, .int .i64 d]] w fun e w' => e = .returned (.bool (decide (mayD y m d))) ∧ Below w.heap.size w w'
  number : ∀ (y m d : Int) (w : World), Mon w → Calls Tryd.prog 32 #[.agg #[.int .i64 y, .int .i64 m, .int .i64 d]] w fun e w' => Below w.heap.size w w' ∧
    ((mayD y m d ∧ e = .returned (.tuple #[.int .i64 (numD y m d), .nilIface])) ∨ (¬ mayD y m d ∧ e = .returned (.tuple #[.int .i64 0, errC 2])))
  months : ∀ (y m d n : Int) (w : World), Mon w → -9223372036854775808 ≤ n → n ≤ 9223372036854775807 → Calls Tryd.prog 17 #[.agg #[.int .i64 y, .int .i64 m, .int .i64 d], .int .i64 n] w fun e w' => Below w.heap.size w w' ∧
    ((¬ mayD y m d ∧ e = .returned (.tuple #[.agg #[.int .i64 0, .int .i64 0, .int .i64 0], errC 2])) ∨ (mayD y m d ∧ noMv y m n ∧ e = .returned (.tuple #[.agg #[.int .i64 0, .int .i64 0, .int .i64 0], errC 1])) ∨
     (mayD y m d ∧ ¬ noMv y m n ∧ e = .returned (.tuple #[.agg #[.int .i64 (mvY y m n), .int .i64 (mvM y m n), .int .i64 (mvD y m d n)], .nilIface])))
  days : ∀ (y m : Int) (w : World), Mon w → Calls Tryd.prog 30 #[.int .i64 y, .int .i64 m] w fun e w' => e = .returned (.int .i64 (dm y m)) ∧ w' = w
theorem up_moves : mayD 2024 1 31 ∧ ¬ noMv 2024 1 1 ∧ mvY 2024 1 1 = 2024 ∧ mvM 2024 1 1 = 2 ∧ mvD 2024 1 31 1 = 29 := by unfold noMv; decide +kernel
theorem up_may : mayD 2024 2 29 ∧ mayD 1970 1 1 ∧ mayD 2026 11 15 ∧ numD 1970 1 1 = 0 ∧ (numD 2026 11 15 + 4) % 7 = 0 := by decide +kernel

end Go.Proofs.YtpddnmkoiplmkaaDoor
