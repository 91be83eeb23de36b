/- The walk of ChartAccounts: whether any account is there, its side, and its name. -/
import Derived.Test.YtkiehlkmbkgenaaDoorChartRef1
import Derived.Test.YtkiehlkmbkgenaaDoorChartRef3
namespace Go.Proofs.YtkiehlkmbkgenaaDoor
open Go Go.RowKit
set_option linter.unusedVariables false

/-- an account at its block, and all that was there -/
structure OneAt (w0 : World) (B : Nat) (k o : Int) (w : World) : Prop where
  a : At2 B k o w
  base : Below w0.heap.size w0 w
theorem OneAt.call {w0 w1 w2 : World} {B : Nat} {k o : Int} (h : OneAt w0 B k o w1) (hb : Below w1.heap.size w1 w2) : OneAt w0 B k o w2 := ⟨h.a.up hb, h.base.trans (hb.mono h.base.size)⟩
theorem OneAt.drew {w0 w1 : World} {B : Nat} {k o : Int} (h : OneAt w0 B k o w1) : OneAt w0 B k o w1.drew := h.call (Below.refl _ _).drew
theorem OneAt.s {w0 w1 : World} {B : Nat} {k o : Int} (h : OneAt w0 B k o w1) : w1.cell? ⟨B, 0, none⟩ = some (.int .i64 k) ∧ w1.cell? ⟨B, 1, none⟩ = some (.int .i64 o) := ⟨h.a.c0, h.a.c1⟩
theorem OneAt.new (w : World) (k o : Int) : OneAt w w.heap.size k o (w.alloc (Obj.cells #[.int .i64 k, .int .i64 o] 23)) := ⟨At2.new w k o, (Below.refl _ _).alloc (Nat.le_refl _) _⟩

set_option maxRecDepth 100000 in
set_option maxHeartbeats 8000000 in
theorem chartAccounts_walk (CC : Hid ChartC) (k o : Int) (w : World) (hi : i64 k ∧ i64 o) (T : Kin w) :
    Calls Tryd.prog 3 #[accV k o] w fun e w' => e = .returned (.bool true) ∧ Below w.heap.size w w' := by
  have rd := fun (w : World) (k : Int) => run_eql_code w k k
  have s0 : (strL []).toList = [] := strL_toList []
  have s1 : (strL []).toList.isEmpty = true := by rw [s0]; rfl
  have HI := Lib.hid hi
  have HT := Lib.hid T
  clear hi T
  have hX := Lib.hid (OneAt.new w k o)
  go_enter Tryd.func3, Tryd.ntmps3
  go_wp2_with fail
  refine (up09_any CC _ (HT.out.of hX.out.base)).mono ?_
  rintro e w1 ⟨rfl, hb1⟩
  replace hX := Lib.hid (hX.out.call hb1)
  clear hb1
  obtain ⟨a0, a1⟩ := hX.out.s
  go_wp2_with fail
  refine (refMay_any k o _).mono ?_
  rintro e w2 ⟨rfl, hb2⟩
  replace hX := Lib.hid (hX.out.call hb2)
  clear hb2 a0 a1
  obtain ⟨a0, a1⟩ := hX.out.s
  go_wp2_with fail
  refine (CC.out.name k o _ (HT.out.of hX.out.base) HI.out.1 HI.out.2).mono ?_
  rintro e w3 ⟨hb3, hN⟩
  replace hX := Lib.hid (hX.out.call hb3)
  clear hb3 a0 a1
  obtain ⟨a0, a1⟩ := hX.out.s
  by_cases hM : MayK k o
  · rcases hN with ⟨_, rfl⟩ | ⟨h, _⟩
    rotate_left
    · exact absurd hM h
    simp only [hM, decide_true]
    go_wp2_with fail
    refine (CC.out.may k o _ (HT.out.of hX.out.base) HI.out.1 HI.out.2).mono ?_
    rintro e w4 ⟨rfl, hb4⟩
    replace hX := Lib.hid (hX.out.call hb4)
    clear hb4 a0 a1
    obtain ⟨a0, a1⟩ := hX.out.s
    simp only [hM, decide_true]
    obtain ⟨j, n, hj, hn, rfl, rfl⟩ : ∃ j n : Nat, j < 12 ∧ n ≤ 65536 ∧ k = (j : Int) + 1 ∧ o = (n : Int) := ⟨(k - 1).toNat, o.toNat, by unfold MayK at hM; omega, by unfold MayK at hM; omega, by unfold MayK at hM; omega, by unfold MayK at hM; omega⟩
    have ek : ((j : Int) + 1).toNat = j + 1 := by omega
    have en : ((n : Int)).toNat = n := by omega
    simp only [ek, en]
    have hss : ((strL (nameL (j + 1) n)).toList == (strL (nameL (j + 1) n)).toList) = true := by simp
    have hcase : DebitK ((j : Int) + 1) n ∧ ((j : Int) + 1 ≤ 3 ∨ (3 < (j : Int) + 1 ∧ ((j : Int) + 1 == 7) = true) ∨ (3 < (j : Int) + 1 ∧ ((j : Int) + 1 == 7) = false ∧ ((j : Int) + 1 == 12) = true)) ∨
        ¬ DebitK ((j : Int) + 1) n ∧ 3 < (j : Int) + 1 ∧ ((j : Int) + 1 == 7) = false ∧ ((j : Int) + 1 == 12) = false := by
      have e1 : ((j : Int) + 1 == 7) = true ↔ (j : Int) + 1 = 7 := by simp
      have e2 : ((j : Int) + 1 == 12) = true ↔ (j : Int) + 1 = 12 := by simp
      have e3 : ((j : Int) + 1 == 7) = false ↔ ¬ (j : Int) + 1 = 7 := by simp
      have e4 : ((j : Int) + 1 == 12) = false ↔ ¬ (j : Int) + 1 = 12 := by simp
      have e5 : DebitK ((j : Int) + 1) n ↔ ((j : Int) + 1 ≤ 3 ∨ (j : Int) + 1 = 7 ∨ (j : Int) + 1 = 12) := ⟨fun h => h.2, fun h => ⟨hM, h⟩⟩
      rw [e1, e2, e3, e4, e5]
      omega
    rcases hcase with ⟨hD, t1 | ⟨t1, t2⟩ | ⟨t1, t2, t3⟩⟩ | ⟨hD, t1, t2, t3⟩
    all_goals
      go_wp2_with fail
      refine (refName_any j n hj hn _).mono ?_
      rintro e w5 ⟨rfl, hb5⟩
      replace hX := Lib.hid (hX.out.call hb5)
      clear hb5 a0 a1
      obtain ⟨a0, a1⟩ := hX.out.s
      go_wp2_with fail
      refine (CC.out.debit ((j : Int) + 1) n _ (HT.out.of hX.out.base) HI.out.1 HI.out.2).mono ?_
      rintro e w6 ⟨rfl, hb6⟩
      replace hX := Lib.hid (hX.out.call hb6)
      clear hb6 a0 a1
      simp only [hD, decide_true, decide_false]
      go_wp2_with fail
      go_ret
      exact ⟨by first | (simp; done) | (simp; omega), hX.out.base⟩
  · rcases hN with ⟨h, _⟩ | ⟨_, rfl⟩
    · exact absurd h hM
    simp only [hM, decide_false]
    go_wp2_with fail
    refine (CC.out.may k o _ (HT.out.of hX.out.base) HI.out.1 HI.out.2).mono ?_
    rintro e w4 ⟨rfl, hb4⟩
    replace hX := Lib.hid (hX.out.call hb4)
    clear hb4 a0 a1
    obtain ⟨a0, a1⟩ := hX.out.s
    simp only [hM, decide_false]
    go_wp2_with fail
    refine (CC.out.debit k o _ (HT.out.of hX.out.base) HI.out.1 HI.out.2).mono ?_
    rintro e w5 ⟨rfl, hb5⟩
    replace hX := Lib.hid (hX.out.call hb5)
    have hD : ¬ DebitK k o := fun h => hM h.1
    simp only [hD, decide_false]
    clear hb5
    go_wp2_with fail
    go_ret
    exact ⟨by simp, hX.out.base⟩
end Go.Proofs.YtkiehlkmbkgenaaDoor
