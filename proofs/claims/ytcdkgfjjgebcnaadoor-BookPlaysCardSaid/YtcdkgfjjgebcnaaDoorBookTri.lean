/- Plain books: how the document's trial is found, kind by kind, by rising Of. -/
import Derived.Test.YtcdkgfjjgebcnaaDoorBookNum3
namespace Go.Proofs.YtcdkgfjjgebcnaaDoor
open Go
set_option linter.unusedVariables false

/-- of the kind's lines beyond last the least Of, or -1 -/
def IsNext (κ last : Int) (P : List Ln) (r : Int) : Prop :=
  (r = -1 ∧ ∀ x ∈ P, x.k = κ → x.o ≤ last) ∨ (last < r ∧ (∃ x ∈ P, x.k = κ ∧ x.o = r) ∧ ∀ x ∈ P, x.k = κ → last < x.o → r ≤ x.o)
def stepO (κ last r : Int) (x : Ln) : Int := if x.k = κ ∧ last < x.o ∧ (r < 0 ∨ x.o < r) then x.o else r

theorem isNext_nil (κ last : Int) : IsNext κ last [] (-1) := Or.inl ⟨rfl, fun x hx => by cases hx⟩
theorem isNext_step {κ last r : Int} {P : List Ln} {x : Ln} (hl : -1 ≤ last) (h : IsNext κ last P r) : IsNext κ last (P ++ [x]) (stepO κ last r x) := by
  unfold stepO
  by_cases hc : x.k = κ ∧ last < x.o ∧ (r < 0 ∨ x.o < r)
  · rw [if_pos hc]
    refine Or.inr ⟨hc.2.1, ⟨x, by simp, hc.1, rfl⟩, fun y hy hk ho => ?_⟩
    rcases List.mem_append.1 hy with hy | hy
    · rcases h with ⟨h1, h2⟩ | ⟨h1, _, h3⟩
      · have := h2 y hy hk; omega
      · have := h3 y hy hk ho; omega
    · rw [List.mem_singleton.1 hy]; omega
  · rw [if_neg hc]
    rcases h with ⟨h1, h2⟩ | ⟨h1, ⟨z, hz, hz1, hz2⟩, h3⟩
    · refine Or.inl ⟨h1, fun y hy hk => ?_⟩
      rcases List.mem_append.1 hy with hy | hy
      · exact h2 y hy hk
      · rw [List.mem_singleton.1 hy] at hk ⊢; omega
    · refine Or.inr ⟨h1, ⟨z, by simp [hz], hz1, hz2⟩, fun y hy hk ho => ?_⟩
      rcases List.mem_append.1 hy with hy | hy
      · exact h3 y hy hk ho
      · rw [List.mem_singleton.1 hy] at hk ho ⊢; omega

/-- how many of the kind's lines lie beyond last -/
def cntO (κ last : Int) (P : List Ln) : Nat := (P.filter fun x => decide (x.k = κ ∧ last < x.o)).length
theorem cntO_le (κ last : Int) (P : List Ln) : cntO κ last P ≤ P.length := List.length_filter_le _ _
theorem cntO_lt {κ last r : Int} : ∀ (P : List Ln), last < r → (∃ x ∈ P, x.k = κ ∧ x.o = r) → cntO κ r P + 1 ≤ cntO κ last P := by
  have mono : ∀ (P : List Ln), last < r → cntO κ r P ≤ cntO κ last P := by
    intro P hr
    induction P with
    | nil => exact Nat.le_refl _
    | cons a P ih =>
      unfold cntO at *
      rw [List.filter_cons, List.filter_cons]
      by_cases h1 : a.k = κ ∧ r < a.o
      · have h2 : a.k = κ ∧ last < a.o := by omega
        simp only [h1, h2, decide_true, if_true, List.length_cons, and_self]
        omega
      · rw [if_neg (by simpa using h1)]
        split
        · simp only [List.length_cons]; omega
        · exact ih
  intro P hr
  induction P with
  | nil => rintro ⟨x, hx, _⟩; cases hx
  | cons a P ih =>
    rintro ⟨x, hx, h1, h2⟩
    have hm := mono P hr
    unfold cntO at *
    rw [List.filter_cons, List.filter_cons]
    by_cases ha : a.k = κ ∧ r < a.o
    · have h3 : a.k = κ ∧ last < a.o := by omega
      rcases List.mem_cons.1 hx with rfl | hx
      · omega
      · have := ih ⟨x, hx, h1, h2⟩
        simp only [ha, h3, decide_true, if_true, List.length_cons, and_self]
        omega
    · rw [if_neg (by simpa using ha)]
      rcases List.mem_cons.1 hx with rfl | hx
      · have h3 : x.k = κ ∧ last < x.o := by omega
        rw [if_pos (by simpa using h3)]
        simp only [List.length_cons]
        omega
      · have := ih ⟨x, hx, h1, h2⟩
        split
        · simp only [List.length_cons]; omega
        · exact this

/-- the trial so far: all kinds below κ, and of κ up to last -/
def Upto (s : Bk) (κ last : Int) (t : List Ln) : Prop :=
  t.Pairwise Before ∧ ∀ x : Ln, x ∈ t ↔ x.v = s.bal x.k x.o ∧ x.v ≠ 0 ∧ (x.k < κ ∨ (x.k = κ ∧ x.o ≤ last))

theorem may_bal {s : Bk} (h : MayAll s) {k o : Int} (hb : s.bal k o ≠ 0) : 1 ≤ k ∧ k ≤ 12 ∧ 0 ≤ o := by
  obtain ⟨x, hx, rfl, rfl⟩ := balL_mem hb
  have := h x hx
  unfold MayK at this
  omega
theorem upto_first {s : Bk} (h : MayAll s) : Upto s 1 (-1) [] := ⟨List.Pairwise.nil, fun x => by
  simp only [List.not_mem_nil, false_iff]
  rintro ⟨h1, h2, h3⟩
  rw [h1] at h2
  have := may_bal h h2
  omega⟩
theorem upto_kind {s : Bk} (h : MayAll s) {κ last : Int} {t : List Ln} (hu : Upto s κ last t) (hn : ∀ x ∈ allL s.L, x.k = κ → x.o ≤ last) : Upto s (κ + 1) (-1) t := ⟨hu.1, fun x => by
  rw [hu.2]
  constructor
  · rintro ⟨h1, h2, h3⟩
    exact ⟨h1, h2, by omega⟩
  · rintro ⟨h1, h2, h3⟩
    refine ⟨h1, h2, ?_⟩
    have hb : s.bal x.k x.o ≠ 0 := by rw [← h1]; exact h2
    have := may_bal h hb
    obtain ⟨y, hy, e1, e2⟩ := balL_mem hb
    by_cases hk : x.k = κ
    · have := hn y hy (by rw [e1, hk])
      right
      exact ⟨hk, by omega⟩
    · left; omega⟩
theorem upto_more {s : Bk} {κ last r : Int} {t : List Ln} (hu : Upto s κ last t) (hn : IsNext κ last (allL s.L) r) (hr : 0 ≤ r) :
    (s.bal κ r = 0 → Upto s κ r t) ∧ (s.bal κ r ≠ 0 → Upto s κ r (t ++ [⟨κ, r, s.bal κ r⟩])) := by
  rcases hn with ⟨h1, _⟩ | ⟨h1, _, h3⟩
  · omega
  have key : ∀ x : Ln, x.v = s.bal x.k x.o → x.v ≠ 0 → (x.k < κ ∨ (x.k = κ ∧ x.o ≤ r)) → (x.k < κ ∨ (x.k = κ ∧ x.o ≤ last)) ∨ (x.k = κ ∧ x.o = r) := by
    intro x e1 e2 e3
    rcases e3 with e3 | ⟨e3, e4⟩
    · exact Or.inl (Or.inl e3)
    · by_cases h5 : x.o ≤ last
      · exact Or.inl (Or.inr ⟨e3, h5⟩)
      · obtain ⟨y, hy, f1, f2⟩ := balL_mem (show s.bal x.k x.o ≠ 0 by rw [← e1]; exact e2)
        have := h3 y hy (by rw [f1, e3]) (by omega)
        exact Or.inr ⟨e3, by omega⟩
  constructor
  · intro h0
    refine ⟨hu.1, fun x => ?_⟩
    rw [hu.2]
    constructor
    · rintro ⟨e1, e2, e3⟩
      exact ⟨e1, e2, by omega⟩
    · rintro ⟨e1, e2, e3⟩
      rcases key x e1 e2 e3 with h | ⟨h, h'⟩
      · exact ⟨e1, e2, h⟩
      · rw [h, h'] at e1; exact absurd (e1.trans h0) e2
  · intro h0
    refine ⟨?_, fun x => ?_⟩
    · rw [List.pairwise_append]
      refine ⟨hu.1, List.pairwise_singleton _ _, fun a ha b hb => ?_⟩
      rw [List.mem_singleton.1 hb]
      have := ((hu.2 a).1 ha).2.2
      unfold Before LessK
      simp only
      omega
    · rw [List.mem_append, List.mem_singleton, hu.2]
      constructor
      · rintro (⟨e1, e2, e3⟩ | rfl)
        · exact ⟨e1, e2, by omega⟩
        · exact ⟨rfl, h0, Or.inr ⟨rfl, Int.le_refl _⟩⟩
      · rintro ⟨e1, e2, e3⟩
        rcases key x e1 e2 e3 with h | ⟨h, h'⟩
        · exact Or.inl ⟨e1, e2, h⟩
        · right
          obtain ⟨xk, xo, xv⟩ := x
          simp only at h h' e1
          rw [h, h'] at e1
          rw [h, h', e1]
theorem upto_all {s : Bk} (h : MayAll s) {t : List Ln} (hu : Upto s 13 (-1) t) : Trial s.bal t := ⟨hu.1, fun x => by
  rw [hu.2]
  constructor
  · rintro ⟨h1, h2, _⟩; exact ⟨h1, h2⟩
  · rintro ⟨h1, h2⟩
    have := may_bal h (show s.bal x.k x.o ≠ 0 by rw [← h1]; exact h2)
    exact ⟨h1, h2, Or.inl (by omega)⟩⟩
end Go.Proofs.YtcdkgfjjgebcnaaDoor
