/- The landed package chart keeps its contracts: May, Debit, Less, Name, numbered, Parse. -/
import Derived.Test.YtcdkgfjjgebcnaaDoorChartL4
import Derived.Test.YtcdkgfjjgebcnaaDoorShelf
import Derived.Deep.RegionHeld3
namespace Go.Proofs.YtcdkgfjjgebcnaaDoor
open Go Go.RowKit
set_option linter.unusedVariables false

theorem Kin.nm3 {w : World} (T : Kin w) (k : Nat) (hk : k < 13) : w.cell? ⟨0, k * 3, none⟩ = some (.string (strL (namK k))) := by rw [Nat.mul_comm]; exact T.nm k hk
theorem Kin.mo3 {w : World} (T : Kin w) (k : Nat) (hk : k < 13) : w.cell? ⟨0, k * 3 + 1, none⟩ = some (.int .i64 (moK k)) := by rw [Nat.mul_comm]; exact T.mo k hk
theorem Kin.de3 {w : World} (T : Kin w) (k : Nat) (hk : k < 13) : w.cell? ⟨0, k * 3 + 2, none⟩ = some (.bool (deK k)) := by rw [Nat.mul_comm]; exact T.de k hk

theorem deK_eq (j : Nat) (h1 : 1 ≤ j) (h : j < 13) : deK j = decide ((j : Int) ≤ 3 ∨ (j : Int) = 7 ∨ (j : Int) = 12) := by
  have : ∀ j : Fin 13, 1 ≤ j.1 → deK j.1 = decide ((j.1 : Int) ≤ 3 ∨ (j.1 : Int) = 7 ∨ (j.1 : Int) = 12) := by decide +kernel
  exact this ⟨j, h⟩ h1

set_option maxHeartbeats 2000000 in
theorem may_any (k o : Int) (w : World) (T : Kin w) (hk : i64 k) (ho : i64 o) : Calls Tryd.prog 51 #[accV k o] w fun e w' => e = .returned (.bool (decide (MayK k o))) ∧ Below w.heap.size w w' := by
  have hA := Below.alloc (Below.refl w.heap.size w) (Nat.le_refl _) (Obj.cells #[.int .i64 k, .int .i64 o] 24)
  have HA := Lib.hid hA
  have T1 := T.of hA
  clear hA
  by_cases h1 : k < 1
  · have hM : ¬ MayK k o := by unfold MayK; omega
    rw [decide_eq_false hM]
    clear hM T T1
    go_enter Tryd.func51, Tryd.ntmps51
    go_wp2_with fail
    go_ret
    exact ⟨rfl, HA.out⟩
  · by_cases h2 : 12 < k
    · have hM : ¬ MayK k o := by unfold MayK; omega
      rw [decide_eq_false hM]
      clear hM T T1
      go_enter Tryd.func51, Tryd.ntmps51
      go_wp2_with fail
      go_ret
      exact ⟨rfl, HA.out⟩
    · obtain ⟨j, rfl⟩ : ∃ j : Nat, k = (j : Int) := ⟨k.toNat, by omega⟩
      have hc := T1.mo3 j (by omega)
      clear T T1
      by_cases h3 : j ≤ 3
      · rw [show moK j = 0 from if_pos h3] at hc
        have hM : decide (MayK (j : Int) o) = decide (o = 0) := by
          apply decide_eq_decide.2
          unfold MayK
          omega
        rw [hM]
        clear hM
        have hcase : (o < 0 ∧ decide (o = 0) = false) ∨ (0 ≤ o ∧ o ≤ 0 ∧ decide (o = 0) = true) ∨ (0 ≤ o ∧ 0 < o ∧ decide (o = 0) = false) := by
          have e1 : decide (o = 0) = false ↔ ¬ o = 0 := by simp
          have e2 : decide (o = 0) = true ↔ o = 0 := by simp
          rw [e1, e2]; omega
        rcases hcase with ⟨t1, e1⟩ | ⟨t1, t2, e1⟩ | ⟨t1, t2, e1⟩
        all_goals
          rw [e1]
          clear e1
          go_enter Tryd.func51, Tryd.ntmps51
          go_wp2_with fail
          go_ret
          exact ⟨by first | rfl | (simp; omega), HA.out⟩
      · rw [show moK j = 65536 from if_neg h3] at hc
        have hM : decide (MayK (j : Int) o) = decide (1 ≤ o ∧ o ≤ 65536) := by
          apply decide_eq_decide.2
          unfold MayK
          omega
        rw [hM]
        clear hM
        have hcase : (o < 1 ∧ decide (1 ≤ o ∧ o ≤ 65536) = false) ∨ (1 ≤ o ∧ o ≤ 65536 ∧ decide (1 ≤ o ∧ o ≤ 65536) = true) ∨ (1 ≤ o ∧ 65536 < o ∧ decide (1 ≤ o ∧ o ≤ 65536) = false) := by
          have e1 : decide (1 ≤ o ∧ o ≤ 65536) = false ↔ ¬ (1 ≤ o ∧ o ≤ 65536) := decide_eq_false_iff_not
          have e2 : decide (1 ≤ o ∧ o ≤ 65536) = true ↔ 1 ≤ o ∧ o ≤ 65536 := decide_eq_true_iff
          rw [e1, e2]; omega
        rcases hcase with ⟨t1, e1⟩ | ⟨t1, t2, e1⟩ | ⟨t1, t2, e1⟩
        all_goals
          rw [e1]
          clear e1
          go_enter Tryd.func51, Tryd.ntmps51
          go_wp2_with fail
          go_ret
          exact ⟨by first | rfl | (simp; omega), HA.out⟩

end Go.Proofs.YtcdkgfjjgebcnaaDoor
