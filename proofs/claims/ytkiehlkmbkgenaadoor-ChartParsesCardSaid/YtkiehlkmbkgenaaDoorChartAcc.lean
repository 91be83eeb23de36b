/- Accounts by value held against one another. -/
import Derived.Test.YtkiehlkmbkgenaaDoorChartC
import Derived.LaidEql
namespace Go.Proofs.YtkiehlkmbkgenaaDoor
open Go Go.RowKit
set_option linter.unusedVariables false

theorem run_eql_acc (w : World) (k o k' o' : Int) : (binOp .eql 23 (accV k o) (accV k' o')).run Tryd.prog w = .ok (.bool (k == k' && o == o')) w := by
  have u3 := Tryd.underlying3
  have a3 := Tryd.isAgg3
  have z3 := Tryd.sizeOf3
  have hS : Tryd.prog.underlying 23 = some (.struct (Tryd.prog.fieldsOf 23)) := by kernel_rfl
  have hp : Tryd.prog.stoodInHeld 23 = false := by kernel_rfl
  rw [run_eql_struct, show (10000 : Nat) = 9999 + 1 from rfl, run_equalIn_agg w 9999 23 _ _ hS hp]
  simp only [Program.fieldsOf, Tryd.underlying23]
  go_simp
  by_cases h1 : k = k' <;> by_cases h2 : o = o' <;> simp [h1, h2]
theorem run_neq_acc (w : World) (k o k' o' : Int) : (binOp .neq 23 (accV k o) (accV k' o')).run Tryd.prog w = .ok (.bool (!(k == k' && o == o'))) w := by
  have u3 := Tryd.underlying3
  have a3 := Tryd.isAgg3
  have z3 := Tryd.sizeOf3
  have hS : Tryd.prog.underlying 23 = some (.struct (Tryd.prog.fieldsOf 23)) := by kernel_rfl
  have hp : Tryd.prog.stoodInHeld 23 = false := by kernel_rfl
  rw [run_neq_struct, show (10000 : Nat) = 9999 + 1 from rfl, run_equalIn_agg w 9999 23 _ _ hS hp]
  simp only [Program.fieldsOf, Tryd.underlying23]
  go_simp
  by_cases h1 : k = k' <;> by_cases h2 : o = o' <;> simp [h1, h2]
theorem run_guard_acc (w : World) (x z : Operand) (xs ys : Array Value) : (eqGuard .eql 23 x z (.agg xs) (.agg ys)).run Tryd.prog w = .ok () w := run_eqGuard_agg w .eql 23 x z xs ys (by kernel_rfl)
theorem run_guard_acc_n (w : World) (x z : Operand) (xs ys : Array Value) : (eqGuard .neq 23 x z (.agg xs) (.agg ys)).run Tryd.prog w = .ok () w := run_eqGuard_agg w .neq 23 x z xs ys (by kernel_rfl)
end Go.Proofs.YtkiehlkmbkgenaaDoor
