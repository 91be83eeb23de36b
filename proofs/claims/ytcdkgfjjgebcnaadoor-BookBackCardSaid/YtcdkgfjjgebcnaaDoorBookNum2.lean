/- Plain books: what is reversed leaves no trace. -/
import Derived.Test.YtcdkgfjjgebcnaaDoorBookNum
namespace Go.Proofs.YtcdkgfjjgebcnaaDoor
open Go
set_option linter.unusedVariables false

def Bk.wf (s : Bk) : Prop := s.done.length = s.L.length
theorem wf_zero : Bk.zero.wf := rfl
theorem wf_post {s : Bk} {l : List Ln} (h : s.wf) : (s.post l).wf := by unfold Bk.wf Bk.post at *; simp [h]
theorem wf_rev {s : Bk} {n : Int} (h : s.wf) : (s.rev n).wf := by unfold Bk.wf Bk.rev at *; simp [h]

theorem bal_rev (s : Bk) (n : Int) (k o : Int) : (s.rev n).bal k o = s.bal k o - balL k o (s.L.getD n.toNat []) := by
  unfold Bk.bal Bk.rev
  rw [allL_append, balL_append]
  simp only [allL, List.append_nil, balL_turn]
  omega

theorem post_last (s : Bk) (l : List Ln) : (s.post l).L.getD s.L.length [] = l := by simp [Bk.post, List.getD]
theorem post_len (s : Bk) (l : List Ln) : (s.post l).L.length = s.L.length + 1 := by simp [Bk.post]
theorem post_done (s : Bk) (l : List Ln) (h : s.wf) : (s.post l).done.getD s.L.length false = false := by
  unfold Bk.wf at h
  simp [Bk.post, List.getD, ← h]

theorem turn_bad (l : List Ln) : (turnL l).any badL = l.any badL := by
  induction l with
  | nil => rfl
  | cons a l ih =>
    have e : turnL (a :: l) = ⟨a.k, a.o, -a.v⟩ :: turnL l := rfl
    rw [e, List.any_cons, List.any_cons, ih]
    congr 1
    unfold badL
    congr 1
    by_cases h : a.v = 0
    · simp [h]
    · have : ¬ -a.v = 0 := by omega
      simp [h]
theorem turn_len (l : List Ln) : (turnL l).length = l.length := by simp [turnL]

theorem mayN_zero {s : Bk} {l : List Ln} (h : s.mayN l = 0) : s.L.length < 4096 ∧ 1 ≤ l.length ∧ l.length ≤ 32 ∧ l.any badL = false ∧ sumV l = 0 ∧ overL s.bal [] l = false := by
  unfold Bk.mayN at h
  split at h
  · cases h
  · split at h
    · cases h
    · split at h
      · cases h
      · split at h
        · cases h
        · split at h
          · cases h
          · rename_i h1 h2 h3 h4 h5
            refine ⟨by omega, by omega, by omega, by simpa using h3, by simpa using h4, by simpa using h5⟩

/-- what may be posted and is turned may be posted, but for room -/
theorem mayN_turn {s t : Bk} {l : List Ln} (h : s.mayN l = 0) : t.mayN (turnL l) = 0 ∨ t.mayN (turnL l) = 3 ∨ t.mayN (turnL l) = 8 := by
  obtain ⟨_, h2, h3, h4, h5, _⟩ := mayN_zero h
  unfold Bk.mayN
  rw [turn_len, turn_bad, h4, sumV_turn, h5]
  split
  · exact Or.inr (Or.inr rfl)
  · rw [if_neg (by omega), if_neg (by simp), if_neg (by simp)]
    split
    · exact Or.inr (Or.inl rfl)
    · exact Or.inl rfl

theorem revN_behind {s : Bk} {l : List Ln} (hw : s.wf) : (s.post l).revN (s.L.length : Int) = (s.post l).mayN (turnL l) := by
  unfold Bk.revN
  rw [if_neg (by rw [post_len]; omega), Int.toNat_natCast, post_done s l hw, if_neg (by simp), post_last]

theorem revN_done {s : Bk} {n : Int} (h0 : 0 ≤ n) (h1 : n < (s.L.length : Int)) (hd : s.done.getD n.toNat false = true) : s.revN n = 5 := by
  unfold Bk.revN
  rw [if_neg (by omega), if_pos hd]

theorem rev_done {s : Bk} {n : Nat} (hw : s.wf) (hn : n < s.L.length) : (s.rev (n : Int)).revN (n : Int) = 5 ∧ (s.rev (n : Int)).revN (s.L.length : Int) = 5 := by
  unfold Bk.wf at hw
  constructor
  · refine revN_done (by omega) ?_ ?_
    · simp [Bk.rev]; omega
    · simp only [Bk.rev, Int.toNat_natCast, List.getD]
      rw [List.getElem?_set]
      rw [if_neg (by omega), List.getElem?_set, if_pos rfl, if_pos (by simp; omega)]
      rfl
  · refine revN_done (by omega) ?_ ?_
    · simp [Bk.rev]; omega
    · simp only [Bk.rev, Int.toNat_natCast, List.getD]
      rw [List.getElem?_set, if_pos rfl, if_pos (by simp; omega)]
      rfl

theorem bal_back (s : Bk) (l : List Ln) (k o : Int) : ((s.post l).rev (s.L.length : Int)).bal k o = s.bal k o := by
  rw [bal_rev, Int.toNat_natCast, post_last, bal_post]
  omega
end Go.Proofs.YtcdkgfjjgebcnaaDoor
