/- Plain books: balances have room; sums of a trial's beginnings. -/
import Derived.Test.YtcdkgfjjgebcnaaDoorBookNum2
namespace Go.Proofs.YtcdkgfjjgebcnaaDoor
open Go
set_option linter.unusedVariables false

def InB (s : Bk) : Prop := ∀ k o, in64 (s.bal k o)
theorem inB_zero : InB Bk.zero := fun k o => by
  have : Bk.zero.bal k o = 0 := rfl
  rw [this]; unfold in64; omega
theorem over_room {b : Int → Int → Int} : ∀ (l pre : List Ln), overL b pre l = false → (∀ k o, in64 (b k o + balL k o pre)) → ∀ k o, in64 (b k o + balL k o (pre ++ l)) := by
  intro l
  induction l with
  | nil => intro pre _ h k o; rw [List.append_nil]; exact h k o
  | cons x r ih =>
    intro pre h hp k o
    simp only [overL, Bool.or_eq_false_iff, decide_eq_false_iff_not, Decidable.not_not] at h
    have e : pre ++ x :: r = (pre ++ [x]) ++ r := by simp
    rw [e]
    refine ih _ h.2 (fun k' o' => ?_) k o
    by_cases hx : x.k = k' ∧ x.o = o'
    · rw [← hx.1, ← hx.2]; exact h.1.1
    · have := hp k' o'
      rw [balL_append]
      simp only [balL, if_neg hx]
      simpa using this
theorem inB_post {s : Bk} {l : List Ln} (h : InB s) (hm : s.mayN l = 0) : InB (s.post l) := fun k o => by
  rw [bal_post]
  have := over_room l [] (mayN_zero hm).2.2.2.2.2 (fun k o => by simpa [balL] using h k o) k o
  simpa using this
theorem inB_rev {s : Bk} {n : Int} (h : InB s) (hm : s.revN n = 0) : InB (s.rev n) := fun k o => by
  have h0 : s.mayN (turnL (s.L.getD n.toNat [])) = 0 := by
    unfold Bk.revN at hm
    split at hm
    · cases hm
    · split at hm
      · cases hm
      · exact hm
  have := inB_post h h0 k o
  rw [bal_post, balL_turn] at this
  rw [bal_rev]
  have e : s.bal k o - balL k o (s.L.getD n.toNat []) = s.bal k o + -balL k o (s.L.getD n.toNat []) := by omega
  rw [e]; exact this

theorem sumV_bound : ∀ (l : List Ln), (∀ x ∈ l, in64 x.v) → (sumV l).natAbs ≤ l.length * 9223372036854775808 := by
  intro l
  induction l with
  | nil => intro _; simp [sumV]
  | cons a l ih =>
    intro h
    have h1 := h a (by simp)
    have h2 := ih (fun x hx => h x (by simp [hx]))
    unfold in64 at h1
    simp only [sumV, List.length_cons]
    omega
theorem sumV_take (l : List Ln) {j : Nat} {x : Ln} (h : l[j]? = some x) : sumV (l.take (j + 1)) = sumV (l.take j) + x.v := by
  rw [List.take_add_one, h, sumV_append]
  simp [sumV]

/-- all lines are of accounts that are there -/
def MayAll (s : Bk) : Prop := ∀ x ∈ allL s.L, MayK x.k x.o
theorem mayAll_zero : MayAll Bk.zero := fun x hx => by cases hx
theorem may_of_bad {l : List Ln} (h : l.any badL = false) : ∀ x ∈ l, MayK x.k x.o := fun x hx => by
  have h1 := List.any_eq_false.1 h x hx
  unfold badL at h1
  simp only [Bool.or_eq_true, decide_eq_true_eq, not_or, Decidable.not_not] at h1
  exact h1.1
theorem allL_post (s : Bk) (l : List Ln) : allL (s.post l).L = allL s.L ++ l := by unfold Bk.post; rw [allL_append]; simp [allL]
theorem allL_rev (s : Bk) (n : Int) : allL (s.rev n).L = allL s.L ++ turnL (s.L.getD n.toNat []) := by unfold Bk.rev; rw [allL_append]; simp [allL]
theorem mayAll_post {s : Bk} {l : List Ln} (h : MayAll s) (hm : s.mayN l = 0) : MayAll (s.post l) := fun x hx => by
  rw [allL_post] at hx
  rcases List.mem_append.1 hx with hx | hx
  · exact h x hx
  · exact may_of_bad (mayN_zero hm).2.2.2.1 x hx
theorem mayAll_rev {s : Bk} {n : Int} (h : MayAll s) (hm : s.revN n = 0) : MayAll (s.rev n) := fun x hx => by
  rw [allL_rev] at hx
  have h0 : s.mayN (turnL (s.L.getD n.toNat [])) = 0 := by
    unfold Bk.revN at hm
    split at hm
    · cases hm
    · split at hm
      · cases hm
      · exact hm
  rcases List.mem_append.1 hx with hx | hx
  · exact h x hx
  · exact may_of_bad (mayN_zero h0).2.2.2.1 x hx
theorem mayAll_bal {s : Bk} (h : MayAll s) {k o : Int} (hb : s.bal k o ≠ 0) : in64 k ∧ in64 o := by
  obtain ⟨x, hx, rfl, rfl⟩ := balL_mem hb
  have := h x hx
  unfold MayK at this
  unfold in64
  omega
end Go.Proofs.YtcdkgfjjgebcnaaDoor
