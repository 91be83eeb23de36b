/- Plain books: lines, balances, what may be posted, what is reversed, the trial. No program in sight. -/
import Derived.Test.YtcdkgfjjgebcnaaDoorChartNum
namespace Go.Proofs.YtcdkgfjjgebcnaaDoor
open Go
set_option linter.unusedVariables false

/-- a line: its account's kind and of, and its amount -/
structure Ln where
  k : Int
  o : Int
  v : Int
deriving DecidableEq

def in64 (n : Int) : Prop := -9223372036854775808 ≤ n ∧ n ≤ 9223372036854775807
instance (n : Int) : Decidable (in64 n) := by unfold in64; infer_instance
def Ln.ok (x : Ln) : Prop := in64 x.k ∧ in64 x.o ∧ in64 x.v

def sumV : List Ln → Int
  | [] => 0
  | x :: r => x.v + sumV r
/-- what lines of an account sum to -/
def balL (k o : Int) : List Ln → Int
  | [] => 0
  | x :: r => (if x.k = k ∧ x.o = o then x.v else 0) + balL k o r
def turnL (l : List Ln) : List Ln := l.map fun x => ⟨x.k, x.o, -x.v⟩

theorem sumV_append (l r : List Ln) : sumV (l ++ r) = sumV l + sumV r := by
  induction l with
  | nil => simp [sumV]
  | cons a l ih => simp only [List.cons_append, sumV, ih]; omega
theorem balL_append (k o : Int) (l r : List Ln) : balL k o (l ++ r) = balL k o l + balL k o r := by
  induction l with
  | nil => simp [balL]
  | cons a l ih => simp only [List.cons_append, balL, ih]; omega
theorem sumV_turn (l : List Ln) : sumV (turnL l) = - sumV l := by
  induction l with
  | nil => rfl
  | cons a l ih =>
    have e : turnL (a :: l) = ⟨a.k, a.o, -a.v⟩ :: turnL l := rfl
    rw [e]
    simp only [sumV, ih]
    omega
theorem balL_turn (k o : Int) (l : List Ln) : balL k o (turnL l) = - balL k o l := by
  induction l with
  | nil => rfl
  | cons a l ih =>
    have e : turnL (a :: l) = ⟨a.k, a.o, -a.v⟩ :: turnL l := rfl
    rw [e]
    simp only [balL, ih]
    split <;> omega

/-- books: all entries, and of each whether it was reversed, or reverses one -/
structure Bk where
  L : List (List Ln)
  done : List Bool

def Bk.zero : Bk := ⟨[], []⟩
def allL : List (List Ln) → List Ln
  | [] => []
  | l :: r => l ++ allL r
theorem allL_append (a b : List (List Ln)) : allL (a ++ b) = allL a ++ allL b := by
  induction a with
  | nil => rfl
  | cons x a ih => simp only [List.cons_append, allL, ih, List.append_assoc]
def Bk.bal (s : Bk) (k o : Int) : Int := balL k o (allL s.L)

/-- is a line none's? -/
def badL (x : Ln) : Bool := decide (¬ MayK x.k x.o) || decide (x.v = 0)
/-- has a balance no room, line by line (behind pre)? -/
def overL (b : Int → Int → Int) (pre : List Ln) : List Ln → Bool
  | [] => false
  | x :: r => (decide (¬ in64 (b x.k x.o + balL x.k x.o (pre ++ [x]))) || decide (x.v = -9223372036854775808)) || overL b (pre ++ [x]) r
/-- may an entry be posted? an error's number -/
def Bk.mayN (s : Bk) (l : List Ln) : Nat :=
  if 4096 ≤ s.L.length then 8 else if l.length < 1 ∨ 32 < l.length then 1 else if l.any badL = true then 1 else if sumV l ≠ 0 then 2 else if overL s.bal [] l = true then 3 else 0
def Bk.post (s : Bk) (l : List Ln) : Bk := ⟨s.L ++ [l], s.done ++ [false]⟩
def Bk.revN (s : Bk) (n : Int) : Nat :=
  if n < 0 ∨ (s.L.length : Int) ≤ n then 4 else if s.done.getD n.toNat false = true then 5 else s.mayN (turnL (s.L.getD n.toNat []))
def Bk.rev (s : Bk) (n : Int) : Bk := ⟨s.L ++ [turnL (s.L.getD n.toNat [])], ((s.done ++ [false]).set n.toNat true).set s.L.length true⟩

theorem bal_post (s : Bk) (l : List Ln) (k o : Int) : (s.post l).bal k o = s.bal k o + balL k o l := by
  unfold Bk.bal Bk.post
  rw [allL_append, balL_append]
  simp [allL]

/-- the trial: of each account whose balance isn't 0 that balance, in the accounts' order -/
def Before (a b : Ln) : Prop := LessK a.k a.o b.k b.o
def Trial (b : Int → Int → Int) (t : List Ln) : Prop := t.Pairwise Before ∧ ∀ x : Ln, x ∈ t ↔ x.v = b x.k x.o ∧ x.v ≠ 0

theorem before_asym {a b : Ln} (h : Before a b) (h' : Before b a) : False := by unfold Before LessK at *; omega

theorem sorted_unique : ∀ (t t' : List Ln), t.Pairwise Before → t'.Pairwise Before → (∀ x, x ∈ t ↔ x ∈ t') → t = t' := by
  intro t
  induction t with
  | nil =>
    intro t' _ _ h
    cases t' with
    | nil => rfl
    | cons b t' => exact absurd ((h b).2 (by simp)) (by simp)
  | cons a t ih =>
    intro t' h1 h2 h
    cases t' with
    | nil => exact absurd ((h a).1 (by simp)) (by simp)
    | cons b t' =>
      rw [List.pairwise_cons] at h1 h2
      have e : a = b := by
        rcases List.mem_cons.1 ((h a).1 (by simp)) with h3 | h3
        · exact h3
        · rcases List.mem_cons.1 ((h b).2 (by simp)) with h4 | h4
          · exact h4.symm
          · exact (before_asym (h2.1 a h3) (h1.1 b h4)).elim
      subst e
      refine congrArg _ (ih t' h1.2 h2.2 fun x => ⟨fun hx => ?_, fun hx => ?_⟩)
      · rcases List.mem_cons.1 ((h x).1 (by simp [hx])) with h3 | h3
        · subst h3; exact (before_asym (h1.1 _ hx) (h1.1 _ hx)).elim
        · exact h3
      · rcases List.mem_cons.1 ((h x).2 (by simp [hx])) with h3 | h3
        · subst h3; exact (before_asym (h2.1 _ hx) (h2.1 _ hx)).elim
        · exact h3

theorem trial_unique {b b' : Int → Int → Int} {t t' : List Ln} (h : Trial b t) (h' : Trial b' t') (e : ∀ k o, b k o = b' k o) : t = t' :=
  sorted_unique t t' h.1 h'.1 fun x => by rw [h.2, h'.2, e]

theorem trial_zero : Trial Bk.zero.bal [] := ⟨List.Pairwise.nil, fun x => by
  have : Bk.zero.bal x.k x.o = 0 := rfl
  rw [this]
  simp⟩

/-- what balances of accounts sum to -/
theorem balL_mem {k o : Int} {l : List Ln} (h : balL k o l ≠ 0) : ∃ x ∈ l, x.k = k ∧ x.o = o := by
  induction l with
  | nil => exact absurd rfl h
  | cons a l ih =>
    by_cases ha : a.k = k ∧ a.o = o
    · exact ⟨a, by simp, ha⟩
    · simp only [balL, if_neg ha] at h
      obtain ⟨x, hx, h2⟩ := ih (by omega)
      exact ⟨x, by simp [hx], h2⟩

def offL (k o : Int) (l : List Ln) : List Ln := l.filter fun x => !(decide (x.k = k ∧ x.o = o))
theorem offL_yes {k o : Int} {a : Ln} {l : List Ln} (h : a.k = k ∧ a.o = o) : offL k o (a :: l) = offL k o l := by
  unfold offL
  rw [List.filter_cons_of_neg]
  rw [decide_eq_true h]
  simp
theorem offL_no {k o : Int} {a : Ln} {l : List Ln} (h : ¬ (a.k = k ∧ a.o = o)) : offL k o (a :: l) = a :: offL k o l := by
  unfold offL
  rw [List.filter_cons_of_pos]
  rw [decide_eq_false h]
  rfl
theorem sumV_off (k o : Int) (l : List Ln) : sumV l = balL k o l + sumV (offL k o l) := by
  induction l with
  | nil => rfl
  | cons a l ih =>
    by_cases ha : a.k = k ∧ a.o = o
    · have e : offL k o (a :: l) = offL k o l := offL_yes ha
      rw [e]
      simp only [sumV, balL, if_pos ha]
      omega
    · have e : offL k o (a :: l) = a :: offL k o l := offL_no ha
      rw [e]
      simp only [sumV, balL, if_neg ha]
      omega
theorem balL_off {k o k' o' : Int} (h : ¬ (k' = k ∧ o' = o)) (l : List Ln) : balL k' o' (offL k o l) = balL k' o' l := by
  induction l with
  | nil => rfl
  | cons a l ih =>
    by_cases ha : a.k = k ∧ a.o = o
    · have e : offL k o (a :: l) = offL k o l := offL_yes ha
      rw [e, ih]
      simp only [balL]
      rw [if_neg (by omega)]
      omega
    · have e : offL k o (a :: l) = a :: offL k o l := offL_no ha
      rw [e]
      simp only [balL, ih]
theorem balL_off_self (k o : Int) (l : List Ln) : balL k o (offL k o l) = 0 := by
  induction l with
  | nil => rfl
  | cons a l ih =>
    by_cases ha : a.k = k ∧ a.o = o
    · have e : offL k o (a :: l) = offL k o l := offL_yes ha
      rw [e, ih]
    · have e : offL k o (a :: l) = a :: offL k o l := offL_no ha
      rw [e]
      simp only [balL, if_neg ha, ih]
      omega
theorem offL_len (k o : Int) (l : List Ln) : (offL k o l).length ≤ l.length := List.length_filter_le _ _
theorem offL_lt {k o : Int} {l : List Ln} {x : Ln} (hx : x ∈ l) (h : x.k = k ∧ x.o = o) : (offL k o l).length < l.length := by
  induction l with
  | nil => cases hx
  | cons a l ih =>
    by_cases ha : a.k = k ∧ a.o = o
    · have e : offL k o (a :: l) = offL k o l := offL_yes ha
      rw [e]
      have := offL_len k o l
      simp only [List.length_cons]
      omega
    · have e : offL k o (a :: l) = a :: offL k o l := offL_no ha
      rw [e]
      rcases List.mem_cons.1 hx with rfl | hx
      · exact absurd h ha
      · have := ih hx
        simp only [List.length_cons]
        omega

/-- a sorted trial of lines sums to what the lines sum to -/
theorem trial_sum : ∀ (t l : List Ln), Trial (fun k o => balL k o l) t → sumV t = sumV l := by
  intro t
  induction t with
  | nil =>
    intro l
    have key : ∀ n, ∀ l : List Ln, l.length = n → Trial (fun k o => balL k o l) [] → sumV l = 0 := by
      intro n
      induction n using Nat.strongRecOn with
      | _ n ih =>
        intro l hn h
        have h0 : ∀ k o, balL k o l = 0 := fun k o => by
          by_cases e : balL k o l = 0
          · exact e
          · exact absurd ((h.2 ⟨k, o, balL k o l⟩).2 ⟨rfl, e⟩) (by simp)
        cases l with
        | nil => rfl
        | cons a l =>
          rw [sumV_off a.k a.o, h0 a.k a.o]
          have hlt := offL_lt (l := a :: l) (x := a) (k := a.k) (o := a.o) (by simp) ⟨rfl, rfl⟩
          have := ih (offL a.k a.o (a :: l)).length (by omega) _ rfl ⟨List.Pairwise.nil, fun x => by
            simp only [List.not_mem_nil, false_iff]
            rintro ⟨h1, h2⟩
            by_cases e : x.k = a.k ∧ x.o = a.o
            · rw [e.1, e.2, balL_off_self] at h1
              exact h2 h1
            · rw [balL_off e, h0] at h1
              exact h2 h1⟩
          omega
    intro h
    rw [key _ l rfl h]
    rfl
  | cons a t ih =>
    intro l h
    have ha := (h.2 a).1 (by simp)
    have hp := List.pairwise_cons.1 h.1
    rw [sumV_off a.k a.o l]
    simp only [sumV]
    have e := ih (offL a.k a.o l) ⟨hp.2, fun x => by
      have hx := h.2 x
      rw [List.mem_cons] at hx
      by_cases e : x.k = a.k ∧ x.o = a.o
      · constructor
        · intro hm
          have := hp.1 x hm
          unfold Before LessK at this
          omega
        · rintro ⟨h1, h2⟩
          simp only [e.1, e.2, balL_off_self] at h1
          exact absurd h1 h2
      · simp only [balL_off e]
        constructor
        · intro hm
          exact hx.1 (Or.inr hm)
        · intro hm
          rcases hx.2 hm with rfl | h1
          · exact absurd ⟨rfl, rfl⟩ e
          · exact h1⟩
    rw [e]
    have := ha.1
    simp only at this
    omega

/-- books whose entries each sum to 0 -/
def Zeros (s : Bk) : Prop := ∀ l ∈ s.L, sumV l = 0
theorem zeros_zero : Zeros Bk.zero := fun l hl => by cases hl
theorem zeros_post {s : Bk} {l : List Ln} (h : Zeros s) (hl : sumV l = 0) : Zeros (s.post l) := fun x hx => by
  rcases List.mem_append.1 hx with hx | hx
  · exact h x hx
  · rw [List.mem_singleton.1 hx]; exact hl
theorem zeros_rev {s : Bk} {n : Int} (h : Zeros s) : Zeros (s.rev n) := fun x hx => by
  rcases List.mem_append.1 hx with hx | hx
  · exact h x hx
  · rw [List.mem_singleton.1 hx, sumV_turn]
    have : sumV (s.L.getD n.toNat []) = 0 := by
      by_cases hn : n.toNat < s.L.length
      · have e : s.L.getD n.toNat [] ∈ s.L := by simp [List.getD, hn]
        exact h _ e
      · simp [List.getD, List.getElem?_eq_none (show s.L.length ≤ n.toNat by omega), sumV]
    omega
theorem sumV_allL {L : List (List Ln)} (h : ∀ l ∈ L, sumV l = 0) : sumV (allL L) = 0 := by
  induction L with
  | nil => rfl
  | cons a L ih =>
    simp only [allL]
    rw [sumV_append, h a (by simp), ih (fun l hl => h l (by simp [hl]))]
    rfl
theorem trial_zeros {s : Bk} {t : List Ln} (h : Zeros s) (ht : Trial s.bal t) : sumV t = 0 := by
  rw [trial_sum t (allL s.L) ht, sumV_allL h]
theorem mayN_sum {s : Bk} {l : List Ln} (h : s.mayN l = 0) : sumV l = 0 := by
  unfold Bk.mayN at h
  split at h
  · cases h
  · split at h
    · cases h
    · split at h
      · cases h
      · split at h
        · cases h
        · rename_i h1; simpa using h1
end Go.Proofs.YtcdkgfjjgebcnaaDoor
