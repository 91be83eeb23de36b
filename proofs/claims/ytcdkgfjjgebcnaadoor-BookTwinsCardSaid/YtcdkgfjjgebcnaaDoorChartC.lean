/- What is asked of package chart's calls; the examples at the head of layer 9's statements. -/
import Derived.Test.YtcdkgfjjgebcnaaDoorKin
import Derived.Test.YtcdkgfjjgebcnaaDoorPackNum
import Derived.Test.YtcdkgfjjgebcnaaDoorErr
import Derived.LoopTactic
import Derived.RegionTactic
import Derived.Deep.QuietTactic
import Derived.BigQuiet
import Derived.Lib.Hide
import Derived.Deep.Draws
import Derived.Below
import Derived.WalkSmall
import Derived.WalkSpells
import Derived.Laws.Strings
namespace Go.Proofs.YtcdkgfjjgebcnaaDoor
open Go Go.RowKit
set_option linter.unusedVariables false

/-- an account -/
abbrev accV (k o : Int) : Value := .agg #[.int .i64 k, .int .i64 o]
/-- what Name tells -/
def NameTo (w : World) (k o : Int) (e : Ending) (w' : World) : Prop :=
  Below w.heap.size w w' ∧ ((MayK k o ∧ e = .returned (.tuple #[.string (strL (nameL k.toNat o.toNat)), .nilIface])) ∨
    (¬ MayK k o ∧ e = .returned (.tuple #[.string (strL []), .iface 42 (.int .i64 1)])))
/-- what Parse tells -/
def AccTo (w : World) (s : ByteArray) (e : Ending) (w' : World) : Prop :=
  Below w.heap.size w w' ∧ ((∃ k o : Nat, MayK k o ∧ s = strL (nameL k o) ∧ e = .returned (.tuple #[accV k o, .nilIface])) ∨
    ((∀ k o : Nat, MayK k o → s ≠ strL (nameL k o)) ∧ e = .returned (.tuple #[accV 0 0, .iface 42 (.int .i64 2)])))

/-- the contracts of package chart -/
structure ChartC : Prop where
  may : ∀ (k o : Int) (w : World), Kin w → i64 k → i64 o → Calls Tryd.prog 51 #[accV k o] w fun e w' => e = .returned (.bool (decide (MayK k o))) ∧ Below w.heap.size w w'
  less : ∀ (k o k' o' : Int) (w : World), i64 k → i64 o → i64 k' → i64 o' → Calls Tryd.prog 50 #[accV k o, accV k' o'] w fun e w' => e = .returned (.bool (decide (LessK k o k' o'))) ∧ Below w.heap.size w w'
theorem decL_7 : decL 7 = [55] := by rw [decL_pos (by omega)]; simp [decL_zero]
theorem name_up : nameL 5 7 = [101, 115, 99, 114, 111, 119, 46, 55] := by
  simp only [nameL, decL_7]
  rfl
theorem nameL_ne (k o : Nat) (h : MayK k o) : nameL k o ≠ [] := by
  have hk : 1 ≤ k ∧ k ≤ 12 := by unfold MayK at h; omega
  have := (nam_len ⟨k, by omega⟩ hk.1).1
  intro e
  have := congrArg List.length e
  simp only [nameL, List.length_append, List.length_nil] at this
  simp only at *
  omega

end Go.Proofs.YtcdkgfjjgebcnaaDoor
