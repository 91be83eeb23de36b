/- What is asked of package chart's calls; the examples at the head of layer 9's statements. -/
import Derived.Test.YtkiehlkmbkgenaaDoorKin
import Derived.Test.YtkiehlkmbkgenaaDoorPackNum
import Derived.Test.YtkiehlkmbkgenaaDoorErr
import Derived.LoopTactic
import Derived.RegionTactic
import Derived.Deep.QuietTactic
import Derived.BigQuiet
import Derived.Lib.Hide
import Derived.Deep.Draws
import Derived.Below
import Derived.WalkSmall
import Derived.WalkSpells
import Derived.Laws.Strings
namespace Go.Proofs.YtkiehlkmbkgenaaDoor
open Go Go.RowKit
set_option linter.unusedVariables false

/-- an account -/
abbrev accV (k o : Int) : Value := .agg #[.int .i64 k, .int .i64 o]
/-- what Name tells -/
def NameTo (w : World) (k o : Int) (e : Ending) (w' : World) : Prop :=
  Below w.heap.size w w' ∧ ((MayK k o ∧ e = .returned (.tuple #[.string (strL (nameL k.toNat o.toNat)), .nilIface])) ∨
    (¬ MayK k o ∧ e = .returned (.tuple #[.string (strL []), .iface 30 (.int .i64 1)])))
/-- what Parse tells -/
def AccTo (w : World) (s : ByteArray) (e : Ending) (w' : World) : Prop :=
  Below w.heap.size w w' ∧ ((∃ k o : Nat, MayK k o ∧ s = strL (nameL k o) ∧ e = .returned (.tuple #[accV k o, .nilIface])) ∨
    ((∀ k o : Nat, MayK k o → s ≠ strL (nameL k o)) ∧ e = .returned (.tuple #[accV 0 0, .iface 30 (.int .i64 2)])))

/-- the contracts of package chart -/
structure ChartC : Prop where
  may : ∀ (k o : Int) (w : World), Kin w → i64 k → i64 o → Calls Tryd.prog 10 #[accV k o] w fun e w' => e = .returned (.bool (decide (MayK k o))) ∧ Below w.heap.size w w'
  debit : ∀ (k o : Int) (w : World), Kin w → i64 k → i64 o → Calls Tryd.prog 11 #[accV k o] w fun e w' => e = .returned (.bool (decide (DebitK k o))) ∧ Below w.heap.size w w'
  less : ∀ (k o k' o' : Int) (w : World), i64 k → i64 o → i64 k' → i64 o' → Calls Tryd.prog 15 #[accV k o, accV k' o'] w fun e w' => e = .returned (.bool (decide (LessK k o k' o'))) ∧ Below w.heap.size w w'
  name : ∀ (k o : Int) (w : World), Kin w → i64 k → i64 o → Calls Tryd.prog 9 #[accV k o] w (NameTo w k o)
  parse : ∀ (s : ByteArray) (w : World), Kin w → s.size ≤ 1000 → Calls Tryd.prog 13 #[.string s] w (AccTo w s)

theorem decL_7 : decL 7 = [55] := by rw [decL_pos (by omega)]; simp [decL_zero]
theorem name_up : nameL 5 7 = [101, 115, 99, 114, 111, 119, 46, 55] := by
  simp only [nameL, decL_7]
  rfl
theorem nameL_ne (k o : Nat) (h : MayK k o) : nameL k o ≠ [] := by
  have hk : 1 ≤ k ∧ k ≤ 12 := by unfold MayK at h; omega
  have := (nam_len ⟨k, by omega⟩ hk.1).1
  intro e
  have := congrArg List.length e
  simp only [nameL, List.length_append, List.length_nil] at this
  simp only at *
  omega

set_option maxHeartbeats 4000000 in
theorem up09_any (CC : Hid ChartC) (w : World) (T : Kin w) : Calls Tryd.prog 7 #[] w fun e w' => e = .returned (.bool true) ∧ Below w.heap.size w w' := by
  have rd := fun (w : World) (k : Int) => run_eql_code w k k
  have hst := strL_toList [101, 115, 99, 114, 111, 119, 46, 55]
  have HT := Lib.hid T
  clear T
  go_enter Tryd.func7, Tryd.ntmps7
  go_wp2_with fail
  refine (CC.out.name 5 7 _ HT.out (by unfold i64; omega) (by unfold i64; omega)).mono ?_
  rintro e w1 ⟨hb1, ⟨_, rfl⟩ | ⟨h, _⟩⟩
  rotate_left
  · exact absurd (by decide) h
  rw [show (5 : Int).toNat = 5 from rfl, show (7 : Int).toNat = 7 from rfl, name_up]
  have HB1 := Lib.hid hb1
  clear hb1
  go_wp2_with fail
  refine (CC.out.parse _ _ (HT.out.of HB1.out) ?_).mono ?_
  · decide
  rintro e w2 ⟨hb2, ⟨k, o, hm, he, _⟩ | ⟨_, rfl⟩⟩
  · exact absurd (strL_inj (l := []) he) (fun e => nameL_ne k o hm e.symm)
  have HB2 := Lib.hid ((HB1.out.trans (hb2.mono HB1.out.size)).alloc (Nat.le_trans HB1.out.size hb2.size) (Obj.cells #[.int .i64 0, .int .i64 0] 23))
  clear hb2
  go_wp2_with fail
  go_ret
  exact ⟨by simp, HB2.out⟩
end Go.Proofs.YtkiehlkmbkgenaaDoor
