/- The example at the head of layer 10's statements. -/
import Derived.Test.YtcdkgfjjgebcnaaDoorBookC
namespace Go.Proofs.YtcdkgfjjgebcnaaDoor
open Go Go.RowKit
set_option linter.unusedVariables false

theorem build_ln (k o v : Int) (w : World) : (Instr.build 56 #[(0, .agg #[.int .i64 k, .int .i64 o]), (1, .int .i64 v)]).run Tryd.prog w = .ok (.agg #[.int .i64 k, .int .i64 o, .int .i64 v]) w := run_build w 56 _ _ (by kernel_rfl)
theorem build_ac1 (k : Int) (w : World) : (Instr.build 24 #[(0, .int .i64 k)]).run Tryd.prog w = .ok (.agg #[.int .i64 k, .int .i64 0]) w := run_build w 24 _ _ (by kernel_rfl)
theorem build_ac2 (k o : Int) (w : World) : (Instr.build 24 #[(0, .int .i64 k), (1, .int .i64 o)]).run Tryd.prog w = .ok (.agg #[.int .i64 k, .int .i64 o]) w := run_build w 24 _ _ (by kernel_rfl)

set_option maxRecDepth 100000 in
set_option maxHeartbeats 4000000 in
theorem up10_any {B : (Nat → Prop) → Addr → Bk → World → Prop} (C : Hid (BookC B)) (w : World) (T : Kin w) : Calls Tryd.prog 9 #[] w fun e w' => e = .returned (.bool true) ∧ Below w.heap.size w w' := by
  have HT := Lib.hid T
  clear T
  have bl := build_ln
  have b1 := build_ac1
  have b2 := build_ac2
  go_enter Tryd.func9, Tryd.ntmps9
  go_wp2_with fail
  refine (BHold.new C.out _ HT.out).mono ?_
  rintro e w1 ⟨p, rfl, hB⟩
  have HB := Lib.hid hB
  clear hB
  go_wp2_with fail
  refine (BHold.postNew C.out HB.out ((Below.refl _ _).alloc (Nat.le_refl _) _) (some ⟨w1.heap.size, 0, none⟩) 2 2 _ (two_lines w1) ?_ (fun x hx => by cases hx; exact Or.inr (Nat.le_refl _)) (by omega) (by simp [maxLen]) (by omega)).mono ?_
  · intro x hx
    simp only [List.mem_cons, List.not_mem_nil, or_false] at hx
    rcases hx with rfl | rfl <;> (unfold Ln.ok in64; simp)
  rintro e w2 (⟨_, rfl, hB2⟩ | ⟨h, _⟩)
  rotate_left
  · exact absurd up_may h
  clear HB
  have HB := Lib.hid hB2
  clear hB2
  rw [show errv 0 = .nilIface from rfl]
  go_wp2_with fail
  refine (BHold.trial C.out HB.out).mono ?_
  rintro e w3 ⟨v, t, rfl, hO, hT, hB3, _⟩
  obtain rfl := up_trial hT
  obtain ⟨a, c, rfl, hc, hL, -⟩ := hO
  obtain ⟨b, off, x, rfl, hx, -, -, -, c2⟩ := hL.get (j := 0) (by simp)
  obtain ⟨b', off', x', e', hx', -, -, c4, -⟩ := hL.get (j := 1) (by simp)
  cases e'
  simp only [List.getElem?_cons_zero, List.getElem?_cons_succ, Option.some.injEq] at hx hx'
  subst hx hx'
  simp only [Nat.zero_mul, Nat.one_mul, Nat.add_zero, Nat.add_assoc] at c2 c4
  simp only [Nat.reduceAdd] at c4
  clear HB
  have HB := Lib.hid hB3
  have hc' : 2 ≤ c := hc.1
  clear hB3 hL hc hT
  simp only [List.length_cons, List.length_nil, Nat.zero_add, Nat.reduceAdd]
  go_wp2_with fail
  go_ret
  exact ⟨by simp, HB.out.below⟩
end Go.Proofs.YtcdkgfjjgebcnaaDoor
