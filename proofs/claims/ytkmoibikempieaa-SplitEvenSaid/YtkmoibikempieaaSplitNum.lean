/- Plain numbers of layer 3: a sum in shares. No program in sight. -/
import Derived.WalkKit
namespace Go.Proofs.Ytkmoibikempieaa
open Go
set_option linter.unusedVariables false

/-- how many of the first n numbers are so -/
def cnt (p : Nat → Bool) : Nat → Nat
  | 0 => 0
  | n + 1 => cnt p n + (if p n then 1 else 0)

theorem cnt_le (p : Nat → Bool) (n : Nat) : cnt p n ≤ n := by
  induction n with
  | zero => exact Nat.le_refl _
  | succ n ih => simp only [cnt]; split <;> omega

theorem cnt_mono {p q : Nat → Bool} {n : Nat} (h : ∀ i, i < n → p i = true → q i = true) : cnt p n ≤ cnt q n := by
  induction n with
  | zero => exact Nat.le_refl _
  | succ n ih =>
    have h1 := ih (fun i hi => h i (by omega))
    simp only [cnt]
    by_cases c : p n = true
    · rw [if_pos c, if_pos (h n (by omega) c)]; omega
    · rw [if_neg c]; split <;> omega

theorem cnt_eq {p q : Nat → Bool} {n : Nat} (h : ∀ i, i < n → p i = q i) : cnt p n = cnt q n := by
  induction n with
  | zero => rfl
  | succ n ih => simp only [cnt]; rw [ih (fun i hi => h i (by omega)), h n (by omega)]

theorem cnt_lt {p q : Nat → Bool} {n k : Nat} (h : ∀ i, i < n → p i = true → q i = true) (hk : k < n) (h1 : p k = false) (h2 : q k = true) : cnt p n < cnt q n := by
  induction n with
  | zero => omega
  | succ n ih =>
    simp only [cnt]
    by_cases e : k = n
    · subst e
      have := cnt_mono (p := p) (q := q) (n := k) (fun i hi => h i (by omega))
      rw [h1, h2]; simp; omega
    · have := ih (fun i hi => h i (by omega)) (by omega)
      by_cases c : p n = true
      · rw [if_pos c, if_pos (h n (by omega) c)]; omega
      · rw [if_neg c]; split <;> omega

theorem cnt_none {p : Nat → Bool} {n : Nat} (h : ∀ i, i < n → p i = false) : cnt p n = 0 := by
  induction n with
  | zero => rfl
  | succ n ih => simp only [cnt]; rw [ih (fun i hi => h i (by omega)), h n (by omega)]; rfl

theorem cnt_some {p : Nat → Bool} {n : Nat} (h : cnt p n < n) : ∃ i, i < n ∧ p i = false := by
  induction n with
  | zero => omega
  | succ n ih =>
    simp only [cnt] at h
    by_cases c : p n = true
    · rw [if_pos c] at h
      obtain ⟨i, hi, hp⟩ := ih (by omega)
      exact ⟨i, by omega, hp⟩
    · exact ⟨n, by omega, by simpa using c⟩

theorem cnt_below (k n : Nat) (h : k ≤ n) : cnt (fun i => decide (i < k)) n = k := by
  induction n with
  | zero => simp [cnt]; omega
  | succ n ih =>
    simp only [cnt]
    by_cases e : k = n + 1
    · subst e
      have : cnt (fun i => decide (i < n + 1)) n = n := by
        have h1 := cnt_le (fun i => decide (i < n + 1)) n
        refine Nat.le_antisymm h1 ?_
        refine Nat.le_of_not_lt fun hlt => ?_
        obtain ⟨i, hi, hp⟩ := cnt_some hlt
        simp at hp; omega
      rw [this]; simp
    · rw [ih (by omega)]; simp; omega

/-- one more -/
theorem cnt_put {p : Nat → Bool} {n k : Nat} (hk : k < n) (h : p k = false) : cnt (fun i => if i = k then true else p i) n = cnt p n + 1 := by
  induction n with
  | zero => omega
  | succ n ih =>
    simp only [cnt]
    by_cases e : k = n
    · subst e
      have : cnt (fun i => if i = k then true else p i) k = cnt p k := cnt_eq fun i hi => by rw [if_neg (by omega)]
      rw [this]; simp [h]
    · rw [ih (by omega)]
      simp only [show ¬ n = k by omega, if_false]
      omega

/-! ### who stands ahead of whom -/

/-- j stands ahead of i -/
def aheadB (r : Nat → Int) (j i : Nat) : Bool := decide (r i < r j) || (decide (r j = r i) && decide (j < i))

theorem ahead_iff (r : Nat → Int) (j i : Nat) : aheadB r j i = true ↔ r i < r j ∨ (r j = r i ∧ j < i) := by
  simp [aheadB]

/-- how many stand ahead of it -/
def rank (r : Nat → Int) (n i : Nat) : Nat := cnt (fun j => aheadB r j i) n

/-- those that got a cent: with one all that stand ahead of it -/
def Closed (r : Nat → Int) (n : Nat) (g : Nat → Bool) : Prop := ∀ i j, i < n → j < n → g j = true → aheadB r i j = true → g i = true

theorem closed_rank {r : Nat → Int} {n k : Nat} {g : Nat → Bool} (h : Closed r n g) (hk : cnt g n = k) {i : Nat} (hi : i < n) : g i = decide (rank r n i < k) := by
  by_cases c : g i = true
  · have : rank r n i < k := by
      rw [← hk]
      refine cnt_lt (k := i) (fun j hj ha => h j i hj hi c ha) hi ?_ c
      simp [aheadB]
    rw [c]; simp [this]
  · have : k ≤ rank r n i := by
      rw [← hk]
      refine cnt_mono fun j hj hg => ?_
      rw [ahead_iff]
      have h1 : ¬ aheadB r i j = true := fun ha => c (h i j hi hj hg ha)
      rw [ahead_iff] at h1
      have h2 : j ≠ i := fun e => c (by rw [← e]; exact hg)
      omega
    have h3 : g i = false := by simpa using c
    rw [h3]; simp; omega

theorem closed_none (r : Nat → Int) (n : Nat) : Closed r n (fun _ => false) := fun i j _ _ h => by cases h

/-- the best of those that got none yet, among the first m -/
def Best (r : Nat → Int) (g : Nat → Bool) (m b : Nat) : Prop := b < m ∧ g b = false ∧ ∀ i, i < m → g i = false → aheadB r i b = false

theorem Best.first {r : Nat → Int} {g : Nat → Bool} {m : Nat} (hg : g m = false) (h : ∀ i, i < m → g i = true) : Best r g (m + 1) m :=
  ⟨by omega, hg, fun i hi hgi => by
    by_cases e : i = m
    · subst e; simp [aheadB]
    · have := h i (by omega); rw [this] at hgi; cases hgi⟩

theorem Best.skip {r : Nat → Int} {g : Nat → Bool} {m b : Nat} (h : Best r g m b) (hg : g m = true) : Best r g (m + 1) b :=
  ⟨by have := h.1; omega, h.2.1, fun i hi hgi => by
    by_cases e : i = m
    · subst e; rw [hg] at hgi; cases hgi
    · exact h.2.2 i (by omega) hgi⟩

theorem Best.stay {r : Nat → Int} {g : Nat → Bool} {m b : Nat} (h : Best r g m b) (hr : r m ≤ r b) : Best r g (m + 1) b :=
  ⟨by have := h.1; omega, h.2.1, fun i hi hgi => by
    by_cases e : i = m
    · subst e
      have h1 := h.1
      have : ¬ aheadB r i b = true := by rw [ahead_iff]; omega
      simpa using this
    · exact h.2.2 i (by omega) hgi⟩

theorem Best.turn {r : Nat → Int} {g : Nat → Bool} {m b : Nat} (h : Best r g m b) (hg : g m = false) (hr : r b < r m) : Best r g (m + 1) m :=
  ⟨by omega, hg, fun i hi hgi => by
    by_cases e : i = m
    · subst e; simp [aheadB]
    · have h1 := h.2.2 i (by omega) hgi
      have h2 : ¬ aheadB r i b = true := by simp [h1]
      rw [ahead_iff] at h2
      have h3 := h.1
      have : ¬ aheadB r i m = true := by rw [ahead_iff]; omega
      simpa using this⟩

/-- the best gets a cent -/
theorem Closed.put {r : Nat → Int} {n b : Nat} {g : Nat → Bool} (h : Closed r n g) (hb : Best r g n b) : Closed r n (fun i => if i = b then true else g i) := by
  intro i j hi hj hgj ha
  by_cases e : i = b
  · simp [e]
  · simp only [e, if_false]
    by_cases e2 : j = b
    · subst e2
      by_cases c : g i = true
      · exact c
      · have := hb.2.2 i hi (by simpa using c)
        rw [this] at ha; cases ha
    · simp only [e2, if_false] at hgj
      exact h i j hi hj hgj ha

/-! ### the shares -/

def sumF (f : Nat → Int) : Nat → Int
  | 0 => 0
  | n + 1 => sumF f n + f n

theorem sumF_eq {f g : Nat → Int} {n : Nat} (h : ∀ i, i < n → f i = g i) : sumF f n = sumF g n := by
  induction n with
  | zero => rfl
  | succ n ih => simp only [sumF]; rw [ih (fun i hi => h i (by omega)), h n (by omega)]

theorem sumF_add (f g : Nat → Int) (n : Nat) : sumF (fun i => f i + g i) n = sumF f n + sumF g n := by
  induction n with
  | zero => rfl
  | succ n ih => simp only [sumF, ih]; omega

theorem sumF_mul (f : Nat → Int) (c : Int) (n : Nat) : sumF (fun i => c * f i) n = c * sumF f n := by
  induction n with
  | zero => simp [sumF]
  | succ n ih => simp only [sumF, ih, Int.mul_add]

theorem sumF_bound {f : Nat → Int} {n : Nat} {a b : Int} (h : ∀ i, i < n → a ≤ f i ∧ f i ≤ b) : (n : Int) * a ≤ sumF f n ∧ sumF f n ≤ (n : Int) * b := by
  induction n with
  | zero => simp [sumF]
  | succ n ih =>
    have h1 := ih (fun i hi => h i (by omega))
    have h2 := h n (by omega)
    simp only [sumF]
    have e1 : ((n + 1 : Nat) : Int) * a = (n : Int) * a + a := by rw [Int.natCast_add, Int.add_mul]; simp
    have e2 : ((n + 1 : Nat) : Int) * b = (n : Int) * b + b := by rw [Int.natCast_add, Int.add_mul]; simp
    rw [e1, e2]
    omega

theorem sumF_cnt (g : Nat → Bool) (n : Nat) : sumF (fun i => if g i = true then 1 else 0) n = (cnt g n : Int) := by
  induction n with
  | zero => rfl
  | succ n ih => simp only [sumF, cnt, ih]; split <;> simp

/-- quotient and rest of a share -/
def quoS (T A : Int) (f : Nat → Int) (i : Nat) : Int := T * f i / A
def rstS (T A : Int) (f : Nat → Int) (i : Nat) : Int := T * f i % A
/-- the cents that are left -/
def leftS (T A : Int) (f : Nat → Int) (n : Nat) : Int := T - sumF (quoS T A f) n

theorem left_bound {T : Int} {f : Nat → Int} {n : Nat} (hA : 0 < sumF f n) (hn : 0 < n) : 0 ≤ leftS T (sumF f n) f n ∧ leftS T (sumF f n) f n < n := by
  obtain ⟨A, hAe⟩ : ∃ A, sumF f n = A := ⟨_, rfl⟩
  rw [hAe] at hA ⊢
  have e1 : sumF (fun i => A * quoS T A f i + rstS T A f i) n = T * A := by
    rw [← hAe, ← sumF_mul]
    exact sumF_eq fun i hi => by unfold quoS rstS; exact Int.mul_ediv_add_emod _ _
  rw [sumF_add, sumF_mul] at e1
  have hb := sumF_bound (f := rstS T A f) (n := n) (a := 0) (b := A - 1) (fun i hi => by
    have h1 := Int.emod_nonneg (T * f i) (show A ≠ 0 by omega)
    have h2 := Int.emod_lt_of_pos (T * f i) hA
    unfold rstS; omega)
  have e2 : A * leftS T A f n = sumF (rstS T A f) n := by
    unfold leftS
    rw [Int.mul_sub, Int.mul_comm A T]
    omega
  rw [← e2] at hb
  have e3 : (n : Int) * (A - 1) < (n : Int) * A := by rw [Int.mul_sub]; omega
  constructor
  · refine Int.le_of_not_gt fun hlt => ?_
    have := Int.mul_lt_mul_of_pos_left hlt hA
    simp at hb this
    omega
  · refine Int.lt_of_not_ge fun hge => ?_
    have := Int.mul_le_mul_of_nonneg_left hge (show 0 ≤ A by omega)
    rw [Int.mul_comm A (n : Int)] at this
    omega

/-- may a total and weights be? -/
def mayS (T : Int) (zs : List Int) : Prop := (0 ≤ T ∧ T ≤ 10000000000000) ∧ (1 ≤ zs.length ∧ zs.length ≤ 480) ∧ (∀ z ∈ zs, 0 ≤ z ∧ z ≤ 10000000000000) ∧ ∃ z ∈ zs, 0 < z

/-- a weight -/
def wgt (zs : List Int) (i : Nat) : Int := zs.getD i 0

/-- a share -/
def shareS (T : Int) (f : Nat → Int) (n i : Nat) : Int :=
  quoS T (sumF f n) f i + if rank (rstS T (sumF f n) f) n i < (leftS T (sumF f n) f n).toNat then 1 else 0

/-- all shares -/
def sharesL (T : Int) (zs : List Int) : List Int := (List.range zs.length).map (shareS T (wgt zs) zs.length)

theorem sharesL_len (T : Int) (zs : List Int) : (sharesL T zs).length = zs.length := by simp [sharesL]
theorem sharesL_get (T : Int) (zs : List Int) (i : Nat) (h : i < zs.length) : (sharesL T zs).getD i 0 = shareS T (wgt zs) zs.length i := by
  simp [sharesL, List.getD, h]

theorem mayS_wgt {T : Int} {zs : List Int} (h : mayS T zs) (i : Nat) : 0 ≤ wgt zs i ∧ wgt zs i ≤ 10000000000000 := by
  unfold wgt
  by_cases hi : i < zs.length
  · have : zs.getD i 0 = zs[i] := by simp [List.getD, hi]
    rw [this]; exact h.2.2.1 _ (List.getElem_mem _)
  · have : zs.getD i 0 = 0 := by simp [List.getD, List.getElem?_eq_none (show zs.length ≤ i by omega)]
    rw [this]; omega

theorem sumF_pos {f : Nat → Int} {n k : Nat} (h : ∀ i, i < n → 0 ≤ f i) (hk : k < n) (hp : 0 < f k) : 0 < sumF f n := by
  induction n with
  | zero => omega
  | succ n ih =>
    simp only [sumF]
    have h1 : 0 ≤ sumF f n := by
      clear ih hk
      have h2 : ∀ m, m ≤ n → 0 ≤ sumF f m := by
        intro m hm
        induction m with
        | zero => exact Int.le_refl _
        | succ m ih => have := ih (by omega); have := h m (by omega); simp only [sumF]; omega
      exact h2 n (Nat.le_refl _)
    by_cases e : k = n
    · subst e; omega
    · have := ih (fun i hi => h i (by omega)) (by omega)
      have := h n (by omega)
      omega

theorem mayS_sum {T : Int} {zs : List Int} (h : mayS T zs) : 0 < sumF (wgt zs) zs.length ∧ sumF (wgt zs) zs.length ≤ 4800000000000000 := by
  constructor
  · obtain ⟨z, hz, hp⟩ := h.2.2.2
    obtain ⟨k, hk, rfl⟩ := List.getElem_of_mem hz
    refine sumF_pos (k := k) (fun i _ => (mayS_wgt h i).1) hk ?_
    have : wgt zs k = zs[k] := by simp [wgt, List.getD, hk]
    rw [this]; exact hp
  · have := (sumF_bound (f := wgt zs) (n := zs.length) (fun i _ => mayS_wgt h i)).2
    have := h.2.1.2
    omega

/-- a quotient is no more than the total -/
theorem quo_bound {T A x : Int} (hT : 0 ≤ T) (hx : 0 ≤ x) (hA : x ≤ A) (hp : 0 < A) : 0 ≤ T * x / A ∧ T * x / A ≤ T := by
  refine ⟨Int.ediv_nonneg (Int.mul_nonneg hT hx) (by omega), ?_⟩
  have h1 : T * x ≤ T * A := Int.mul_le_mul_of_nonneg_left hA hT
  have h2 : T * A / A = T := Int.mul_ediv_cancel _ (by omega)
  have h3 := Int.ediv_le_ediv hp h1
  rwa [h2] at h3

theorem sumF_ge {f : Nat → Int} {n k : Nat} (h : ∀ i, i < n → 0 ≤ f i) (hk : k < n) : f k ≤ sumF f n := by
  have h2 : ∀ m, m ≤ n → 0 ≤ sumF f m := by
    intro m hm
    induction m with
    | zero => exact Int.le_refl _
    | succ m ih => have := ih (by omega); have := h m (by omega); simp only [sumF]; omega
  induction n with
  | zero => omega
  | succ n ih =>
    simp only [sumF]
    have h3 := h n (by omega)
    have h4 := h2 n (by omega)
    by_cases e : k = n
    · subst e; omega
    · have := ih (fun i hi => h i (by omega)) (by omega) (fun m hm => h2 m (by omega))
      omega

/-- of equal weights the earlier one's share is no less, and at most a cent more -/
theorem share_first {T : Int} {f : Nat → Int} {n i k : Nat} (hik : i < k) (hk : k < n) (h : f i = f k) : shareS T f n k ≤ shareS T f n i ∧ shareS T f n i ≤ shareS T f n k + 1 := by
  have hq : quoS T (sumF f n) f i = quoS T (sumF f n) f k := by unfold quoS; rw [h]
  have hr : rstS T (sumF f n) f i = rstS T (sumF f n) f k := by unfold rstS; rw [h]
  have hrank : rank (rstS T (sumF f n) f) n i ≤ rank (rstS T (sumF f n) f) n k := by
    refine cnt_mono fun j hj ha => ?_
    rw [ahead_iff] at ha ⊢
    rw [← hr]
    omega
  unfold shareS
  rw [hq]
  split <;> split <;> omega

theorem sum_const (c : Int) (n : Nat) : sumF (fun _ => c) n = (n : Int) * c := by
  induction n with
  | zero => simp [sumF]
  | succ n ih => simp only [sumF, ih]; rw [Int.natCast_add, Int.add_mul]; simp

/-- shares of the same weight -/
theorem share_even {T : Int} {f : Nat → Int} {n i : Nat} (h1 : ∀ j, j < n → f j = 1) (hi : i < n) : shareS T f n i = T / (n : Int) + if (i : Int) < T % (n : Int) then 1 else 0 := by
  have hs : sumF f n = (n : Int) := by rw [sumF_eq (g := fun _ => 1) h1, sum_const]; omega
  have hn : 0 < n := by omega
  have hl : leftS T (n : Int) f n = T % (n : Int) := by
    unfold leftS
    rw [sumF_eq (g := fun _ => T / (n : Int)) (fun j hj => by unfold quoS; rw [h1 j hj, Int.mul_one]), sum_const]
    have := Int.mul_ediv_add_emod T (n : Int)
    omega
  have hrank : rank (rstS T (n : Int) f) n i = i := by
    unfold rank
    rw [cnt_eq (q := fun j => decide (j < i)), cnt_below i n (by omega)]
    intro j hj
    have : rstS T (n : Int) f j = rstS T (n : Int) f i := by unfold rstS; rw [h1 j hj, h1 i hi]
    simp [aheadB, this]
  unfold shareS
  rw [hs, hl, hrank]
  have hq : quoS T (n : Int) f i = T / (n : Int) := by unfold quoS; rw [h1 i hi, Int.mul_one]
  rw [hq]
  have := Int.emod_nonneg T (show (n : Int) ≠ 0 by omega)
  congr 1
  by_cases c : (i : Int) < T % (n : Int)
  · rw [if_pos c, if_pos (by omega)]
  · rw [if_neg c, if_neg (by omega)]

/-- weights so many times as great -/
theorem share_scales {T b : Int} {f g : Nat → Int} {n i : Nat} (hb : 0 < b) (hg : ∀ j, j < n → g j = f j * b) (hA : 0 < sumF f n) (hi : i < n) : shareS T g n i = shareS T f n i := by
  have hs : sumF g n = b * sumF f n := by rw [sumF_eq (g := fun j => b * f j) (fun j hj => by rw [hg j hj, Int.mul_comm]), sumF_mul]
  have hq : ∀ j, j < n → quoS T (b * sumF f n) g j = quoS T (sumF f n) f j := fun j hj => by
    unfold quoS
    rw [hg j hj, ← Int.mul_assoc, Int.mul_comm (T * f j) b, Int.mul_ediv_mul_of_pos _ _ hb]
  have hr : ∀ j, j < n → rstS T (b * sumF f n) g j = b * rstS T (sumF f n) f j := fun j hj => by
    unfold rstS
    rw [hg j hj, ← Int.mul_assoc, Int.mul_comm (T * f j) b, Int.mul_emod_mul_of_pos _ _ hb]
  have hl : leftS T (b * sumF f n) g n = leftS T (sumF f n) f n := by
    unfold leftS
    rw [sumF_eq hq]
  have hrank : rank (rstS T (b * sumF f n) g) n i = rank (rstS T (sumF f n) f) n i := by
    unfold rank
    refine cnt_eq fun j hj => ?_
    have h1 := hr j hj
    have h2 := hr i hi
    generalize rstS T (b * sumF f n) g j = x at *
    generalize rstS T (b * sumF f n) g i = y at *
    have e1 : aheadB (rstS T (b * sumF f n) g) j i = true ↔ aheadB (rstS T (sumF f n) f) j i = true := by
      rw [ahead_iff, ahead_iff, hr j hj, hr i hi]
      generalize rstS T (sumF f n) f j = u
      generalize rstS T (sumF f n) f i = v
      constructor
      · rintro (h | ⟨h, h'⟩)
        · exact Or.inl (Int.lt_of_mul_lt_mul_left h (by omega))
        · exact Or.inr ⟨Int.eq_of_mul_eq_mul_left (by omega) h, h'⟩
      · rintro (h | ⟨h, h'⟩)
        · exact Or.inl (Int.mul_lt_mul_of_pos_left h hb)
        · exact Or.inr ⟨by rw [h], h'⟩
    rw [Bool.eq_iff_iff]
    exact e1
  unfold shareS
  rw [hs, hq i hi, hl, hrank]
end Go.Proofs.Ytkmoibikempieaa
