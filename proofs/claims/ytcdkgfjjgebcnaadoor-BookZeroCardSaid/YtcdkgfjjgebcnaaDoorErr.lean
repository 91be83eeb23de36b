/- The error of api as a number: 0 for none. -/
import Derived.Test.YtcdkgfjjgebcnaaDoorProg
import Derived.WalkKit
import Derived.ProofKit
import Derived.LaidEql
import Derived.Lib.IfaceEq
import Derived.Lib.IfaceNeq
namespace Go.Proofs.YtcdkgfjjgebcnaaDoor
open Go
set_option linter.unusedVariables false

/-- an error's value: of number 0 none -/
def errv (k : Int) : Value := if k = 0 then .nilIface else .iface 42 (.int .i64 k)

theorem errv_0 : errv 0 = .nilIface := rfl
theorem errv_1 : errv 1 = .iface 42 (.int .i64 1) := rfl
theorem errv_3 : errv 3 = .iface 42 (.int .i64 3) := rfl

theorem err_under : Tryd.prog.underlying 39 = some (.interface (Tryd.prog.methodsAt 39)) := by kernel_rfl
theorem code_under : Tryd.prog.underlying 42 = some (.int .i64) := by kernel_rfl
theorem code_comp : (Tryd.prog.info? 42).map (·.comparable) = some true := by kernel_rfl

section
variable (w : World)
theorem run_eql_code (a b : Int) :
    (binOp .eql 39 (.iface 42 (.int .i64 a)) (.iface 42 (.int .i64 b))).run Tryd.prog w = .ok (.bool (a == b)) w :=
  Lib.run_eql_iface_int w a b err_under code_comp code_under

/-- an error held against none -/
theorem run_eql_errv_nil (k : Int) : (binOp .eql 39 (errv k) .nilIface).run Tryd.prog w = .ok (.bool (k == 0)) w := by
  unfold errv
  by_cases h : k = 0
  · rw [if_pos h, run_eql_nil_nil w _ err_under, h]; rfl
  · rw [if_neg h, run_eql_held_nil w _ _ _ err_under]
    have : (k == 0) = false := by simpa using h
    rw [this]
theorem run_neq_errv_nil (k : Int) : (binOp .neq 39 (errv k) .nilIface).run Tryd.prog w = .ok (.bool (k != 0)) w := by
  unfold errv
  by_cases h : k = 0
  · rw [if_pos h, run_neq_nil_nil w _ err_under, h]; rfl
  · rw [if_neg h, run_neq_held_nil w _ _ _ err_under]
    have : (k != 0) = true := by simpa using h
    rw [this]
/-- an error held against a constant that is one -/
theorem run_eql_errv_code (k j : Int) (hj : j ≠ 0) : (binOp .eql 39 (errv k) (.iface 42 (.int .i64 j))).run Tryd.prog w = .ok (.bool (k == j)) w := by
  unfold errv
  by_cases h : k = 0
  · rw [if_pos h, run_eql_iface_nil_left w _ _ err_under, h]
    have : ((0 : Int) == j) = false := by simp; omega
    rw [this]
  · rw [if_neg h, run_eql_code]
theorem run_eql_errv_1 (k : Int) : (binOp .eql 39 (errv k) (.iface 42 (.int .i64 1))).run Tryd.prog w = .ok (.bool (k == 1)) w := run_eql_errv_code w k 1 (by omega)
theorem run_eql_errv_3 (k : Int) : (binOp .eql 39 (errv k) (.iface 42 (.int .i64 3))).run Tryd.prog w = .ok (.bool (k == 3)) w := run_eql_errv_code w k 3 (by omega)
end

/-- the looks ahead of a comparison that leave an error as it is -/
theorem guard_eql_errv_nil (t : TypeId) (x : Operand) (c : Value) (k : Int) : eqGuard .eql t x (.const c) (errv k) .nilIface = pure () := by
  unfold errv; split
  · cases x <;> rfl
  · rfl
theorem guard_neq_errv_nil (t : TypeId) (x : Operand) (c : Value) (k : Int) : eqGuard .neq t x (.const c) (errv k) .nilIface = pure () := by
  unfold errv; split
  · cases x <;> rfl
  · rfl
theorem guard_eql_errv_code (t : TypeId) (x y : Operand) (j k : Int) : eqGuard .eql t x y (errv k) (.iface 42 (.int .i64 j)) = pure () := by
  unfold errv; split <;> rfl
end Go.Proofs.YtcdkgfjjgebcnaaDoor
