/- What the statements ask of errors: which Code one is. -/
import Derived.Test.YtcdkgfjjgebcnaaDoorErr
import Derived.IntWalk
namespace Go.Proofs.YtcdkgfjjgebcnaaDoor
open Go Go.RowKit
set_option linter.unusedVariables false

set_option maxHeartbeats 1000000 in
theorem code_any (k : Nat) (hk : k ≤ 8) (w : World) : Calls Tryd.prog 27 #[errv (k : Int)] w fun e w' => e = .returned (.int .i64 (k : Int)) ∧ w' = w := by
  have re := fun (w : World) (a b : Int) => run_eql_code w a b
  cases k with
  | zero =>
    rw [show errv ((0 : Nat) : Int) = .nilIface from rfl]
    go_enter Tryd.func27, Tryd.ntmps27
    go_wp2_with fail
    go_ret
    exact ⟨rfl, rfl⟩
  | succ k =>
    have e1 : errv ((k + 1 : Nat) : Int) = .iface 42 (.int .i64 ((k + 1 : Nat) : Int)) := by unfold errv; rw [if_neg (by omega)]
    rw [e1]
    obtain ⟨m, hm⟩ : ∃ m, k + 1 = m := ⟨_, rfl⟩
    rw [hm]
    have hm1 : 1 ≤ m := by omega
    have hm8 : m ≤ 8 := by omega
    clear e1 hm hk
    go_enter Tryd.func27, Tryd.ntmps27
    go_wp2_with fail
    go_loopw [3] (fun c wr => ∃ j : Nat, 1 ≤ j ∧ j ≤ m ∧ c = .int .i64 (j : Int) ∧ wr = w) (fun c _ => 10 - (RowKit.intOf c).toNat)
    case atStart => exact ⟨1, by omega, hm1, rfl, rfl⟩
    case round =>
      obtain ⟨j, hj1, hj2, rfl, rfl⟩ := hrel
      have t1 : (j : Int) ≤ 8 := by omega
      have s1 : IntKind.i64.wrap ((j : Int) + 1) = (j : Int) + 1 := IntWalk.i64_in _ (by omega)
      by_cases he : j = m
      · subst he
        have t2 : ((j : Int) == (j : Int)) = true := by simp
        go_wp2_with fail
        go_ret
        exact ⟨rfl, rfl⟩
      · have t2 : ((m : Int) == (j : Int)) = false := by simp; omega
        go_wp2_with fail
        exact ⟨⟨j + 1, by omega, by omega, by go_num, by first | rfl | trivial⟩, by simp [RowKit.intOf]; omega⟩
end Go.Proofs.YtcdkgfjjgebcnaaDoor
