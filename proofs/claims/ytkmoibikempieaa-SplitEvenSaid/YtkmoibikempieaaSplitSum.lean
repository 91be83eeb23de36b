/- Plain numbers of layer 3: shares sum to the total. No program in sight. -/
import Derived.Test.YtkmoibikempieaaSplitNum
namespace Go.Proofs.Ytkmoibikempieaa
open Go
set_option linter.unusedVariables false

theorem best_or {r : Nat → Int} {g : Nat → Bool} (m : Nat) : (∀ i, i < m → g i = true) ∨ ∃ b, Best r g m b := by
  induction m with
  | zero => exact Or.inl fun i hi => absurd hi (Nat.not_lt_zero _)
  | succ m ih =>
    by_cases hg : g m = true
    · rcases ih with h | ⟨b, h⟩
      · left
        intro i hi
        by_cases e : i = m
        · rw [e]; exact hg
        · exact h i (by omega)
      · exact Or.inr ⟨b, h.skip hg⟩
    · have hg' : g m = false := by simpa using hg
      rcases ih with h | ⟨b, h⟩
      · exact Or.inr ⟨m, Best.first hg' h⟩
      · by_cases c : r m ≤ r b
        · exact Or.inr ⟨b, h.stay c⟩
        · exact Or.inr ⟨m, h.turn hg' (by omega)⟩

theorem closed_exists (r : Nat → Int) (n : Nat) : ∀ k, k ≤ n → ∃ g, Closed r n g ∧ cnt g n = k := by
  intro k
  induction k with
  | zero => exact fun _ => ⟨_, closed_none r n, cnt_none fun i hi => rfl⟩
  | succ k ih =>
    intro hk
    obtain ⟨g, hg, hc⟩ := ih (by omega)
    rcases best_or (r := r) (g := g) n with h | ⟨b, h⟩
    · have : cnt g n = n := by
        rw [cnt_eq (q := fun i => decide (i < n)) (fun i hi => by rw [h i hi]; simp [hi]), cnt_below n n (Nat.le_refl _)]
      omega
    · exact ⟨_, hg.put h, by rw [cnt_put h.1 h.2.1, hc]⟩

/-- so many have a lower rank -/
theorem cnt_rank (r : Nat → Int) {n k : Nat} (hk : k ≤ n) : cnt (fun i => decide (rank r n i < k)) n = k := by
  obtain ⟨g, hg, hc⟩ := closed_exists r n k hk
  rw [← cnt_eq (p := g) (fun i hi => closed_rank hg hc hi), hc]

theorem rst_room {T A : Int} {f : Nat → Int} (hA : 0 < A) (i : Nat) : 0 ≤ rstS T A f i ∧ rstS T A f i < A := by
  have h1 := Int.emod_nonneg (T * f i) (show A ≠ 0 by omega)
  have h2 := Int.emod_lt_of_pos (T * f i) hA
  unfold rstS; omega

theorem sumF_le {f g : Nat → Int} {n : Nat} (h : ∀ i, i < n → f i ≤ g i) : sumF f n ≤ sumF g n := by
  induction n with
  | zero => exact Int.le_refl _
  | succ n ih => have := ih (fun i hi => h i (by omega)); have := h n (by omega); simp only [sumF]; omega

/-- the left cents times all weights are all rests -/
theorem left_rest {T : Int} {f : Nat → Int} {n : Nat} (hA : 0 < sumF f n) : sumF f n * leftS T (sumF f n) f n = sumF (rstS T (sumF f n) f) n := by
  obtain ⟨A, hAe⟩ : ∃ A, sumF f n = A := ⟨_, rfl⟩
  rw [hAe] at hA ⊢
  have e1 : sumF (fun i => A * quoS T A f i + rstS T A f i) n = T * A := by
    rw [← hAe, ← sumF_mul]
    exact sumF_eq fun i hi => by unfold quoS rstS; exact Int.mul_ediv_add_emod _ _
  rw [sumF_add, sumF_mul] at e1
  unfold leftS
  rw [Int.mul_sub, Int.mul_comm A T]
  omega

/-- no cent goes to who had no rest -/
theorem rank_zero {T : Int} {f : Nat → Int} {n i : Nat} (hA : 0 < sumF f n) (hi : i < n) (hr : rstS T (sumF f n) f i = 0) : ¬ rank (rstS T (sumF f n) f) n i < (leftS T (sumF f n) f n).toNat := by
  have h1 := left_rest (T := T) hA
  obtain ⟨A, hAe⟩ : ∃ A, sumF f n = A := ⟨_, rfl⟩
  rw [hAe] at hA h1 hr ⊢
  have h2 : rank (rstS T A f) n i = rank (rstS T A f) n i := rfl
  have h3 : cnt (fun j => decide (0 < rstS T A f j)) n ≤ rank (rstS T A f) n i := by
    refine cnt_mono fun j hj hp => ?_
    rw [ahead_iff, hr]
    left
    simpa using hp
  have h4 : sumF (rstS T A f) n ≤ sumF (fun j => (A - 1) * (if decide (0 < rstS T A f j) = true then 1 else 0)) n := by
    refine sumF_le fun j hj => ?_
    have := rst_room (T := T) (f := f) hA j
    by_cases c : 0 < rstS T A f j
    · simp [c]; omega
    · simp [c]; omega
  rw [sumF_mul, sumF_cnt] at h4
  generalize cnt (fun j => decide (0 < rstS T A f j)) n = c at *
  generalize rank (rstS T A f) n i = k at *
  generalize leftS T A f n = L at *
  intro hlt
  have h5 : (c : Int) + 1 ≤ L := by omega
  have h6 : A * ((c : Int) + 1) ≤ A * L := Int.mul_le_mul_of_nonneg_left h5 (by omega)
  rw [Int.mul_add] at h6
  have h7 : (A - 1) * (c : Int) = A * (c : Int) - (c : Int) := by rw [Int.sub_mul]; simp
  omega

/-- a share is less than a cent from its quotient -/
theorem share_near {T : Int} {f : Nat → Int} {n i : Nat} (hA : 0 < sumF f n) (hi : i < n) : -(sumF f n) < T * f i - shareS T f n i * sumF f n ∧ T * f i - shareS T f n i * sumF f n < sumF f n := by
  have h1 := rst_room (T := T) (f := f) hA i
  have h2 := rank_zero (T := T) hA hi
  have h3 := Int.mul_ediv_add_emod (T * f i) (sumF f n)
  unfold shareS
  obtain ⟨A, hAe⟩ : ∃ A, sumF f n = A := ⟨_, rfl⟩
  rw [hAe] at hA h1 h2 h3 ⊢
  have e1 : quoS T A f i = T * f i / A := rfl
  have e2 : rstS T A f i = T * f i % A := rfl
  rw [e1]
  rw [e2] at h1
  by_cases c : rank (rstS T A f) n i < (leftS T A f n).toNat
  · rw [if_pos c, Int.add_mul, Int.mul_comm (T * f i / A) A]
    have : rstS T A f i ≠ 0 := fun e => h2 e c
    rw [e2] at this
    omega
  · rw [if_neg c, Int.add_zero, Int.mul_comm (T * f i / A) A]
    omega

theorem share_le {T : Int} {f : Nat → Int} {n i : Nat} (hT : 0 ≤ T) (hf : ∀ j, j < n → 0 ≤ f j) (hA : 0 < sumF f n) (hi : i < n) : 0 ≤ shareS T f n i ∧ shareS T f n i ≤ T := by
  have h1 := rst_room (T := T) (f := f) hA i
  have h2 := rank_zero (T := T) hA hi
  have h3 := Int.mul_ediv_add_emod (T * f i) (sumF f n)
  have h4 := sumF_ge hf hi
  have h5 := quo_bound hT (hf i hi) h4 hA
  unfold shareS
  obtain ⟨A, hAe⟩ : ∃ A, sumF f n = A := ⟨_, rfl⟩
  rw [hAe] at hA h1 h2 h3 h4 h5 ⊢
  have e1 : quoS T A f i = T * f i / A := rfl
  have e2 : rstS T A f i = T * f i % A := rfl
  rw [e1]
  by_cases c : rank (rstS T A f) n i < (leftS T A f n).toNat
  · rw [if_pos c]
    have h6 : rstS T A f i ≠ 0 := fun e => h2 e c
    rw [e2] at h6 h1
    refine ⟨by omega, ?_⟩
    refine Int.le_of_not_gt fun hgt => ?_
    have h7 : T * f i / A = T := by omega
    rw [h7] at h3
    have h8 : T * f i ≤ T * A := Int.mul_le_mul_of_nonneg_left h4 hT
    rw [Int.mul_comm A T] at h3
    omega
  · rw [if_neg c]; omega

theorem share_none {T : Int} {f : Nat → Int} {n i : Nat} (hA : 0 < sumF f n) (hi : i < n) (h0 : f i = 0) : shareS T f n i = 0 := by
  have hr : rstS T (sumF f n) f i = 0 := by unfold rstS; rw [h0]; simp
  have := rank_zero (T := T) hA hi hr
  unfold shareS
  rw [if_neg this]
  unfold quoS
  rw [h0]
  simp

/-- shares sum to the total -/
theorem share_sum {T : Int} {f : Nat → Int} {n : Nat} (hA : 0 < sumF f n) (hn : 0 < n) : sumF (shareS T f n) n = T := by
  obtain ⟨h1, h2⟩ := left_bound (T := T) hA hn
  have h3 := cnt_rank (rstS T (sumF f n) f) (n := n) (k := (leftS T (sumF f n) f n).toNat) (by omega)
  have h4 := sumF_cnt (fun i => decide (rank (rstS T (sumF f n) f) n i < (leftS T (sumF f n) f n).toNat)) n
  have h5 : sumF (shareS T f n) n = sumF (quoS T (sumF f n) f) n + sumF (fun i => if decide (rank (rstS T (sumF f n) f) n i < (leftS T (sumF f n) f n).toNat) = true then 1 else 0) n := by
    rw [← sumF_add]
    refine sumF_eq fun i hi => ?_
    unfold shareS
    by_cases c : rank (rstS T (sumF f n) f) n i < (leftS T (sumF f n) f n).toNat
    · simp [c]
    · simp [c]
  rw [h5, h4, h3]
  unfold leftS at h1 h2 ⊢
  omega

theorem sumF_part {f : Nat → Int} {n k : Nat} (h : ∀ i, i < n → 0 ≤ f i) (hk : k ≤ n) : 0 ≤ sumF f k ∧ sumF f k ≤ sumF f n := by
  have h2 : ∀ m, m ≤ n → 0 ≤ sumF f m := by
    intro m hm
    induction m with
    | zero => exact Int.le_refl _
    | succ m ih => have := ih (by omega); have := h m (by omega); simp only [sumF]; omega
  refine ⟨h2 k hk, ?_⟩
  clear h2
  induction n with
  | zero => have : k = 0 := by omega
            subst this; exact Int.le_refl _
  | succ n ih =>
    by_cases e : k = n + 1
    · subst e; exact Int.le_refl _
    · have := ih (fun i hi => h i (by omega)) (by omega)
      have := h n (by omega)
      simp only [sumF]
      omega
end Go.Proofs.Ytkmoibikempieaa
