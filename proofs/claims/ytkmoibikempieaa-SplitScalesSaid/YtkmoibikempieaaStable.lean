/- Plain arrays: what each step of a stable sort by merging in place makes of the order. No program in sight. -/
import Derived.Sort.LotA
namespace Go.Proofs.Ytkmoibikempieaa
open Go.Sort
set_option linter.unusedVariables false
variable {α : Type} [Inhabited α] {lt : α → α → Bool} {tt : α → α → Prop} {pl : α → Nat}

/-- each stands ahead of all that lie behind it -/
def SortT (tt : α → α → Prop) (a b : Nat) (d : Array α) : Prop := ∀ i j, a ≤ i → i < j → j < b → tt d[i]! d[j]!

/-- a total order, told by a test of what came later against what came earlier -/
structure Tot (lt : α → α → Bool) (tt : α → α → Prop) (pl : α → Nat) : Prop where
  trans : ∀ {x y z}, tt x y → tt y z → tt x z
  less : ∀ {x y}, pl x < pl y → (lt y x = true → tt y x)
  more : ∀ {x y}, pl x < pl y → (lt y x = false → tt x y)

theorem all_of_perm {a b : Nat} {d d' : Array α} (h : PermIn a b d d') (hb : b ≤ d.size) (p : α → Prop) (hp : ∀ i, a ≤ i → i < b → p d[i]!) : ∀ i, a ≤ i → i < b → p d'[i]! := permIn_all d d' a b p hb h hp
theorem prefl (d : Array α) (a b : Nat) : PermIn a b d d := permIn_refl d a b
theorem ptrans {d d' d'' : Array α} {a b : Nat} (h : PermIn a b d d') (h' : PermIn a b d' d'') : PermIn a b d d'' := permIn_trans _ _ _ _ _ h h'
theorem pmono {d d' : Array α} {a b a' b' : Nat} (h : PermIn a b d d') (ha : a' ≤ a) (hb : b ≤ b') (hs : b' ≤ d.size) : PermIn a' b' d d' := permIn_mono _ _ _ _ _ _ ha hb hs h
theorem pswp {d : Array α} {a b i j : Nat} (hi : a ≤ i) (hi' : i < b) (hj : a ≤ j) (hj' : j < b) (hb : b ≤ d.size) : PermIn a b d (swp d i j) := swp_permIn d a b i j hi hi' hj hj' hb
theorem psize {d d' : Array α} {a b : Nat} (h : PermIn a b d d') : d'.size = d.size := h.1
theorem pout {d d' : Array α} {a b : Nat} (h : PermIn a b d d') {i : Nat} (hi : i < a ∨ b ≤ i) : d'[i]! = d[i]! := h.2.1 i hi

theorem SortT.same {a b : Nat} {d d' : Array α} (h : SortT tt a b d) (he : ∀ i, a ≤ i → i < b → d'[i]! = d[i]!) : SortT tt a b d' := fun i j h1 h2 h3 => by
  rw [he i h1 (by omega), he j (by omega) h3]; exact h i j h1 h2 h3
theorem SortT.part {a b a' b' : Nat} {d : Array α} (h : SortT tt a b d) (ha : a ≤ a') (hb : b' ≤ b) : SortT tt a' b' d := fun i j h1 h2 h3 => h i j (by omega) h2 (by omega)
theorem SortT.join {a m b : Nat} {d : Array α} (h1 : SortT tt a m d) (h2 : SortT tt m b d) (h : ∀ p q, a ≤ p → p < m → m ≤ q → q < b → tt d[p]! d[q]!) : SortT tt a b d := fun i j hi hij hj => by
  by_cases c : j < m
  · exact h1 i j hi hij c
  · by_cases c2 : i < m
    · exact h i j hi c2 (by omega) hj
    · exact h2 i j (by omega) hij hj

/-! ### putting one in after the other -/
structure InsT (tt : α → α → Prop) (pl : α → Nat) (a j i : Nat) (d : Array α) : Prop where
  rest : ∀ p q, a ≤ p → p < q → q ≤ i → p ≠ j → q ≠ j → tt d[p]! d[q]!
  right : ∀ q, j < q → q ≤ i → tt d[j]! d[q]!
  pls : ∀ p, a ≤ p → p ≤ i → p ≠ j → pl d[p]! < pl d[j]!

theorem InsT.stop (T : Tot lt tt pl) {a j i : Nat} {d : Array α} (h : InsT tt pl a j i d) (haj : a ≤ j) (hji : j ≤ i) (hs : j ≤ a ∨ lt d[j]! d[j - 1]! = false) : SortT tt a (i + 1) d := by
  intro p q hp hpq hq
  by_cases hqj : q = j
  · subst hqj
    rcases hs with hs | hs
    · omega
    · have h1 : tt d[q - 1]! d[q]! := T.more (h.pls (q - 1) (by omega) (by omega) (by omega)) hs
      by_cases hp1 : p = q - 1
      · rw [hp1]; exact h1
      · exact T.trans (h.rest p (q - 1) hp (by omega) (by omega) (by omega) (by omega)) h1
  · by_cases hpj : p = j
    · subst hpj; exact h.right q hpq (by omega)
    · exact h.rest p q hp hpq (by omega) hpj hqj

theorem InsT.step (T : Tot lt tt pl) {a j i : Nat} {d : Array α} (h : InsT tt pl a (j + 1) i d) (hl : lt d[j + 1]! d[j]! = true) (haj : a ≤ j) (hji : j + 1 ≤ i) (hsz : j + 1 < d.size) : InsT tt pl a j i (swp d (j + 1) j) := by
  have g := swp_get d hsz (show j < d.size by omega)
  have ht : tt d[j + 1]! d[j]! := T.less (h.pls j haj (by omega) (by omega)) hl
  constructor
  · intro p q hap hpq hqi hp hq
    rw [g, g]
    by_cases hq1 : q = j + 1
    · subst hq1
      simp only [hq, hp, if_false, if_true, show p ≠ j + 1 by omega]
      exact h.rest p j hap (by omega) (by omega) (by omega) (by omega)
    · by_cases hp1 : p = j + 1
      · subst hp1
        simp only [hq, hp, hq1, if_false, if_true]
        exact h.rest j q haj (by omega) hqi (by omega) hq1
      · simp only [hq, hp, hq1, hp1, if_false]
        exact h.rest p q hap hpq hqi hp1 hq1
  · intro q hjq hqi
    rw [g, g]
    by_cases hq1 : q = j + 1
    · subst hq1
      simpa [show j + 1 ≠ j by omega] using ht
    · simp only [if_true, show q ≠ j by omega, hq1, if_false]
      exact h.right q (by omega) hqi
  · intro p hp hpi hpj
    rw [g, g]
    by_cases hp1 : p = j + 1
    · subst hp1
      simp only [hpj, if_false, if_true]
      exact h.pls j haj (by omega) (by omega)
    · simp only [hpj, hp1, if_false, if_true]
      exact h.pls p hp hpi hp1

theorem insT_inner (T : Tot lt tt pl) (a i : Nat) : ∀ (j : Nat) (d : Array α), a ≤ j → j ≤ i → i < d.size → InsT tt pl a j i d → PermIn a (i + 1) d (insInner lt a j d) ∧ SortT tt a (i + 1) (insInner lt a j d)
  | 0, d, haj, _, _, hI => by
    unfold insInner
    exact ⟨prefl _ _ _, hI.stop T haj (by omega) (Or.inl (Nat.zero_le _))⟩
  | j + 1, d, haj, hji, hi, hI => by
    unfold insInner
    split
    · rename_i hc
      simp only [Bool.and_eq_true, decide_eq_true_eq] at hc
      have ih := insT_inner T a i j (swp d (j + 1) j) (by omega) (by omega) (by rw [swp_size]; exact hi) (hI.step T hc.2 (by omega) hji (by omega))
      exact ⟨ptrans (pswp (by omega) (by omega) (by omega) (by omega) (by omega)) ih.1, ih.2⟩
    · rename_i hc
      simp only [Bool.and_eq_true, decide_eq_true_eq, not_and, Bool.not_eq_true] at hc
      refine ⟨prefl _ _ _, hI.stop T haj hji ?_⟩
      by_cases h : j + 1 > a
      · exact Or.inr (by simpa using hc h)
      · exact Or.inl (by omega)

theorem insT_outer (T : Tot lt tt pl) (a b : Nat) :
    ∀ (n i : Nat) (d : Array α), b - i = n → a < i → i ≤ b → b ≤ d.size → SortT tt a i d → (∀ p q, a ≤ p → p < q → i ≤ q → q < b → pl d[p]! < pl d[q]!) → PermIn a b d (insOuter lt a b i d) ∧ SortT tt a b (insOuter lt a b i d)
  | 0, i, d, hn, _, hib, _, hs, _ => by
    obtain rfl : i = b := by omega
    rw [insOuter, if_neg (by omega)]
    exact ⟨prefl _ _ _, hs⟩
  | n + 1, i, d, hn, hai, hib, hb, hs, hp => by
    have hlt : i < b := by omega
    rw [insOuter, if_pos hlt]
    have h1 := insT_inner T a i i d (by omega) (Nat.le_refl _) (by omega) ⟨fun p q hap hpq hqi _ hq => hs p q hap hpq (by omega), fun q h1 h2 => by omega, fun p h1 h2 h3 => hp p i h1 (by omega) (Nat.le_refl _) hlt⟩
    have h2 := insT_outer T a b n (i + 1) (insInner lt a i d) (by omega) (by omega) (by omega) (by rw [h1.1.1]; exact hb) h1.2 (fun p q hp1 hpq hq hqb => by
      rw [pout h1.1 (i := q) (Or.inr (by omega))]
      by_cases c : p < i + 1
      · exact all_of_perm h1.1 (by omega) (fun x => pl x < pl d[q]!) (fun k hk hk' => hp k q hk (by omega) (by omega) hqb) p hp1 c
      · rw [pout h1.1 (i := p) (Or.inr (by omega))]
        exact hp p q hp1 hpq (by omega) hqb)
    exact ⟨ptrans (pmono h1.1 (Nat.le_refl _) (by omega) hb) h2.1, h2.2⟩

/-- insertion sort keeps the order of equals -/
theorem insT (T : Tot lt tt pl) (a b : Nat) (d : Array α) (hb : b ≤ d.size) (hp : ∀ p q, a ≤ p → p < q → q < b → pl d[p]! < pl d[q]!) : PermIn a b d (insertionSort lt d a b) ∧ SortT tt a b (insertionSort lt d a b) := by
  unfold insertionSort
  by_cases h : a < b
  · exact insT_outer T a b (b - (a + 1)) (a + 1) d rfl (by omega) (by omega) hb (fun i j h1 h2 h3 => by omega) (fun p q h1 h2 h3 h4 => hp p q h1 h2 h4)
  · rw [insOuter, if_neg (by omega)]
    exact ⟨prefl _ _ _, fun i j h1 h2 h3 => by omega⟩

/-! ### two stretches exchanged -/
structure Swapped (a b n : Nat) (d d' : Array α) : Prop where
  size : d'.size = d.size
  left : ∀ k, a ≤ k → k < a + n → d'[k]! = d[k - a + b]!
  right : ∀ k, b ≤ k → k < b + n → d'[k]! = d[k - b + a]!
  other : ∀ k, (k < a ∨ a + n ≤ k) → (k < b ∨ b + n ≤ k) → d'[k]! = d[k]!
  perm : ∀ lo hi, lo ≤ a → b + n ≤ hi → hi ≤ d.size → PermIn lo hi d d'

theorem Swapped.start (a b : Nat) (d : Array α) : Swapped a b 0 d d := ⟨rfl, fun k h1 h2 => by omega, fun k h1 h2 => by omega, fun _ _ _ => rfl, fun _ _ _ _ _ => prefl _ _ _⟩

theorem Swapped.step {a b n i : Nat} {d d' : Array α} (h : Swapped a b i d d') (hi : i < n) (hab : a + n ≤ b) (hb : b + n ≤ d.size) : Swapped a b (i + 1) d (swp d' (a + i) (b + i)) := by
  have hs := h.size
  have g := swp_get d' (show a + i < d'.size by omega) (show b + i < d'.size by omega)
  refine ⟨by rw [swp_size]; exact hs, fun k h1 h2 => ?_, fun k h1 h2 => ?_, fun k h1 h2 => ?_, fun lo hi' h1 h2 h3 => ?_⟩
  · rw [g]
    by_cases c : k = a + i
    · rw [if_neg (by omega), if_pos c, h.other (b + i) (by omega) (by omega), c]; congr 1; omega
    · rw [if_neg (by omega), if_neg c]; exact h.left k h1 (by omega)
  · rw [g]
    by_cases c : k = b + i
    · rw [if_pos c, h.other (a + i) (by omega) (by omega), c]; congr 1; omega
    · rw [if_neg c, if_neg (by omega)]; exact h.right k h1 (by omega)
  · rw [g, if_neg (by omega), if_neg (by omega)]; exact h.other k (by omega) (by omega)
  · exact ptrans (h.perm lo hi' h1 (by omega) h3) (pswp (by omega) (by omega) (by omega) (by omega) (by omega))

/-! ### a turn -/
def tgt (a m b : Nat) (d : Array α) (k : Nat) : α := if k < a + (b - m) then d[k + (m - a)]! else d[k - (b - m)]!

structure Rotated (a m b : Nat) (d d' : Array α) : Prop where
  perm : PermIn a b d d'
  get : ∀ k, a ≤ k → k < b → d'[k]! = tgt a m b d k

structure RotI (a m b i j : Nat) (d d' : Array α) : Prop where
  i0 : 0 < i
  j0 : 0 < j
  im : i ≤ m - a
  jm : j ≤ b - m
  am : a < m
  mb : m < b
  bs : b ≤ d.size
  perm : PermIn a b d d'
  out : ∀ k, a ≤ k → k < b → (k < m - i ∨ m + j ≤ k) → d'[k]! = tgt a m b d k
  left : ∀ k, m - i ≤ k → k < m - i + j → d'[k + i]! = tgt a m b d k
  right : ∀ k, m - i + j ≤ k → k < m + j → d'[k - j]! = tgt a m b d k

theorem RotI.start {a m b : Nat} {d : Array α} (am : a < m) (mb : m < b) (bs : b ≤ d.size) : RotI a m b (m - a) (b - m) d d :=
  ⟨by omega, by omega, by omega, by omega, am, mb, bs, prefl _ _ _, fun k h1 h2 h3 => by omega, fun k h1 h2 => by
    unfold tgt; rw [if_pos (by omega)], fun k h1 h2 => by
    unfold tgt; rw [if_neg (by omega)]⟩

theorem RotI.one {a m b i j : Nat} {d d' d2 : Array α} (h : RotI a m b i j d d') (hij : j < i) (hs : Swapped (m - i) m j d' d2) : RotI a m b (i - j) j d d2 := by
  obtain ⟨i0, j0, im, jm, am, mb, bs, hp, ho, hl, hr⟩ := h
  have e1 := psize hp
  refine ⟨by omega, j0, by omega, jm, am, mb, bs, ptrans hp (hs.perm a b (by omega) (by omega) (by omega)), fun k h1 h2 h3 => ?_, fun k h1 h2 => ?_, fun k h1 h2 => ?_⟩
  · by_cases c : m - i ≤ k ∧ k < m - i + j
    · rw [hs.left k c.1 c.2, ← hl k c.1 c.2]; congr 1; omega
    · rw [hs.other k (by omega) (by omega)]; exact ho k h1 h2 (by omega)
  · rw [hs.right _ (by omega) (by omega), ← hr k (by omega) (by omega)]; congr 1; omega
  · rw [hs.other _ (by omega) (by omega), ← hr k (by omega) (by omega)]

theorem RotI.two {a m b i j : Nat} {d d' d2 : Array α} (h : RotI a m b i j d d') (hij : i < j) (hs : Swapped (m - i) (m + j - i) i d' d2) : RotI a m b i (j - i) d d2 := by
  obtain ⟨i0, j0, im, jm, am, mb, bs, hp, ho, hl, hr⟩ := h
  have e1 := psize hp
  refine ⟨i0, by omega, im, by omega, am, mb, bs, ptrans hp (hs.perm a b (by omega) (by omega) (by omega)), fun k h1 h2 h3 => ?_, fun k h1 h2 => ?_, fun k h1 h2 => ?_⟩
  · by_cases c : m + j - i ≤ k ∧ k < m + j
    · rw [hs.right k c.1 (by omega), ← hr k (by omega) (by omega)]; congr 1; omega
    · rw [hs.other k (by omega) (by omega)]; exact ho k h1 h2 (by omega)
  · rw [hs.other _ (by omega) (by omega), ← hl k (by omega) (by omega)]
  · rw [hs.left _ (by omega) (by omega), ← hl k (by omega) (by omega)]; congr 1; omega

theorem RotI.done {a m b i : Nat} {d d' d2 : Array α} (h : RotI a m b i i d d') (hs : Swapped (m - i) m i d' d2) : Rotated a m b d d2 := by
  obtain ⟨i0, j0, im, jm, am, mb, bs, hp, ho, hl, hr⟩ := h
  have e1 := psize hp
  refine ⟨ptrans hp (hs.perm a b (by omega) (by omega) (by omega)), fun k h1 h2 => ?_⟩
  by_cases c : m - i ≤ k ∧ k < m
  · rw [hs.left k c.1 (by omega), ← hl k c.1 (by omega)]; congr 1; omega
  · by_cases c2 : m ≤ k ∧ k < m + i
    · rw [hs.right k c2.1 (by omega), ← hr k (by omega) (by omega)]; congr 1; omega
    · rw [hs.other k (by omega) (by omega)]; exact ho k h1 h2 (by omega)

/-! ### a merge -/
structure Mrg (tt : α → α → Prop) (pl : α → Nat) (a m b : Nat) (d : Array α) : Prop where
  am : a < m
  mb : m < b
  bs : b ≤ d.size
  l : SortT tt a m d
  r : SortT tt m b d
  lr : ∀ p q, a ≤ p → p < m → m ≤ q → q < b → pl d[p]! < pl d[q]!

/-- what a merge makes -/
def Mgd (tt : α → α → Prop) (a b : Nat) (d d' : Array α) : Prop := PermIn a b d d' ∧ SortT tt a b d'

/-- the search for the place of the first among the second stretch -/
structure FindR (tt : α → α → Prop) (a m b i j : Nat) (d : Array α) : Prop where
  mi : m ≤ i
  ij : i ≤ j
  jb : j ≤ b
  lo : ∀ k, m ≤ k → k < i → tt d[k]! d[a]!
  hi : ∀ k, j ≤ k → k < b → tt d[a]! d[k]!

theorem FindR.start {a m b : Nat} {d : Array α} (h : m < b) : FindR tt a m b m b d := ⟨Nat.le_refl _, by omega, Nat.le_refl _, fun k h1 h2 => by omega, fun k h1 h2 => by omega⟩
theorem FindR.up (T : Tot lt tt pl) {a m b i j : Nat} {d : Array α} (M : Mrg tt pl a m b d) (h : FindR tt a m b i j d) {x : Nat} (h1 : i ≤ x) (h2 : x < j) (hl : lt d[x]! d[a]! = true) : FindR tt a m b (x + 1) j d := by
  obtain ⟨mi, ij, jb, lo, hi⟩ := h
  have ht : tt d[x]! d[a]! := T.less (M.lr a x (Nat.le_refl _) M.am (by omega) (by omega)) hl
  exact ⟨by omega, by omega, jb, fun k k1 k2 => by
    by_cases c : k = x
    · rw [c]; exact ht
    · exact T.trans (M.r k x k1 (by omega) (by omega)) ht, hi⟩
theorem FindR.down (T : Tot lt tt pl) {a m b i j : Nat} {d : Array α} (M : Mrg tt pl a m b d) (h : FindR tt a m b i j d) {x : Nat} (h1 : i ≤ x) (h2 : x < j) (hl : lt d[x]! d[a]! = false) : FindR tt a m b i x d := by
  obtain ⟨mi, ij, jb, lo, hi⟩ := h
  have ht : tt d[a]! d[x]! := T.more (M.lr a x (Nat.le_refl _) M.am (by omega) (by omega)) hl
  exact ⟨mi, h1, by omega, lo, fun k k1 k2 => by
    by_cases c : k = x
    · rw [c]; exact ht
    · exact T.trans ht (M.r x k (by omega) (by omega) k2)⟩

/-- the first one on its way up, at k -/
structure ShiftR (a b k : Nat) (d d' : Array α) : Prop where
  perm : PermIn a b d d'
  past : ∀ p, a ≤ p → p < k → d'[p]! = d[p + 1]!
  at_ : d'[k]! = d[a]!
  rest : ∀ p, k < p → d'[p]! = d[p]!

theorem ShiftR.start (a b : Nat) (d : Array α) : ShiftR a b a d d := ⟨prefl _ _ _, fun p h1 h2 => by omega, rfl, fun _ _ => rfl⟩
theorem ShiftR.step {a b k : Nat} {d d' : Array α} (h : ShiftR a b k d d') (ha : a ≤ k) (hb : k + 1 < b) (hs : b ≤ d.size) : ShiftR a b (k + 1) d (swp d' k (k + 1)) := by
  have e := psize h.perm
  have g := swp_get d' (show k < d'.size by omega) (show k + 1 < d'.size by omega)
  refine ⟨ptrans h.perm (pswp (by omega) (by omega) (by omega) (by omega) (by omega)), fun p h1 h2 => ?_, ?_, fun p h1 => ?_⟩
  · rw [g, if_neg (by omega)]
    by_cases c : p = k
    · rw [if_pos c, h.rest (k + 1) (by omega), c]
    · rw [if_neg c]; exact h.past p h1 (by omega)
  · rw [g, if_pos rfl]; exact h.at_
  · rw [g, if_neg (by omega), if_neg (by omega)]; exact h.rest p (by omega)
theorem ShiftR.done {a b i : Nat} {d d' : Array α} (M : Mrg tt pl a (a + 1) b d) (F : FindR tt a (a + 1) b i i d) (h : ShiftR a b (i - 1) d d') : Mgd tt a b d d' := by
  obtain ⟨mi, ij, jb, lo, hi⟩ := F
  refine ⟨h.perm, fun p q h1 h2 h3 => ?_⟩
  by_cases cq : q < i - 1
  · rw [h.past p h1 (by omega), h.past q (by omega) cq]; exact M.r (p + 1) (q + 1) (by omega) (by omega) (by omega)
  · by_cases cq2 : q = i - 1
    · subst cq2
      rw [h.past p h1 h2, h.at_]; exact lo (p + 1) (by omega) (by omega)
    · rw [h.rest q (by omega)]
      by_cases cp : p < i - 1
      · rw [h.past p h1 cp]
        exact M.r (p + 1) q (by omega) (by omega) h3
      · by_cases cp2 : p = i - 1
        · subst cp2
          rw [h.at_]; exact hi q (by omega) h3
        · rw [h.rest p (by omega)]; exact M.r p q (by omega) h2 h3

/-- the search for the place of the last among the first stretch -/
structure FindL (tt : α → α → Prop) (a m i j : Nat) (d : Array α) : Prop where
  ai : a ≤ i
  ij : i ≤ j
  jm : j ≤ m
  lo : ∀ k, a ≤ k → k < i → tt d[k]! d[m]!
  hi : ∀ k, j ≤ k → k < m → tt d[m]! d[k]!

theorem FindL.start {a m : Nat} {d : Array α} (h : a < m) : FindL tt a m a m d := ⟨Nat.le_refl _, by omega, Nat.le_refl _, fun k h1 h2 => by omega, fun k h1 h2 => by omega⟩
theorem FindL.up (T : Tot lt tt pl) {a m b i j : Nat} {d : Array α} (M : Mrg tt pl a m b d) (h : FindL tt a m i j d) {x : Nat} (h1 : i ≤ x) (h2 : x < j) (hl : lt d[m]! d[x]! = false) : FindL tt a m (x + 1) j d := by
  obtain ⟨ai, ij, jm, lo, hi⟩ := h
  have hmb := M.mb
  have ht : tt d[x]! d[m]! := T.more (M.lr x m (by omega) (by omega) (Nat.le_refl _) hmb) hl
  exact ⟨by omega, by omega, jm, fun k k1 k2 => by
    by_cases c : k = x
    · rw [c]; exact ht
    · exact T.trans (M.l k x k1 (by omega) (by omega)) ht, hi⟩
theorem FindL.down (T : Tot lt tt pl) {a m b i j : Nat} {d : Array α} (M : Mrg tt pl a m b d) (h : FindL tt a m i j d) {x : Nat} (h1 : i ≤ x) (h2 : x < j) (hl : lt d[m]! d[x]! = true) : FindL tt a m i x d := by
  obtain ⟨ai, ij, jm, lo, hi⟩ := h
  have hmb := M.mb
  have ht : tt d[m]! d[x]! := T.less (M.lr x m (by omega) (by omega) (Nat.le_refl _) hmb) hl
  exact ⟨ai, h1, by omega, lo, fun k k1 k2 => by
    by_cases c : k = x
    · rw [c]; exact ht
    · exact T.trans ht (M.l x k (by omega) (by omega) k2)⟩

/-- the last one on its way down, at k -/
structure ShiftL (a m b k : Nat) (d d' : Array α) : Prop where
  perm : PermIn a b d d'
  past : ∀ p, k < p → p ≤ m → d'[p]! = d[p - 1]!
  at_ : d'[k]! = d[m]!
  rest : ∀ p, p < k → d'[p]! = d[p]!

theorem ShiftL.start (a m b : Nat) (d : Array α) : ShiftL a m b m d d := ⟨prefl _ _ _, fun p h1 h2 => by omega, rfl, fun _ _ => rfl⟩
theorem ShiftL.step {a m b k : Nat} {d d' : Array α} (h : ShiftL a m b (k + 1) d d') (ha : a ≤ k) (hk : k + 1 ≤ m) (hb : m < b) (hs : b ≤ d.size) : ShiftL a m b k d (swp d' (k + 1) k) := by
  have e := psize h.perm
  have g := swp_get d' (show k + 1 < d'.size by omega) (show k < d'.size by omega)
  refine ⟨ptrans h.perm (pswp (by omega) (by omega) (by omega) (by omega) (by omega)), fun p h1 h2 => ?_, ?_, fun p h1 => ?_⟩
  · rw [g, if_neg (by omega)]
    by_cases c : p = k + 1
    · rw [if_pos c, h.rest k (by omega), c]; rfl
    · rw [if_neg c]; exact h.past p (by omega) h2
  · rw [g, if_pos rfl]; exact h.at_
  · rw [g, if_neg (by omega), if_neg (by omega)]; exact h.rest p (by omega)
theorem ShiftL.done {a m i : Nat} {d d' : Array α} (M : Mrg tt pl a m (m + 1) d) (F : FindL tt a m i i d) (h : ShiftL a m (m + 1) i d d') : Mgd tt a (m + 1) d d' := by
  obtain ⟨ai, ij, jm, lo, hi⟩ := F
  refine ⟨h.perm, fun p q h1 h2 h3 => ?_⟩
  by_cases cq : i < q
  · rw [h.past q cq (by omega)]
    by_cases cp : i < p
    · rw [h.past p cp (by omega)]; exact M.l (p - 1) (q - 1) (by omega) (by omega) (by omega)
    · by_cases cp2 : p = i
      · subst cp2
        rw [h.at_]; exact hi (q - 1) (by omega) (by omega)
      · rw [h.rest p (by omega)]
        exact M.l p (q - 1) h1 (by omega) (by omega)
  · by_cases cq2 : q = i
    · subst cq2
      rw [h.at_, h.rest p h2]; exact lo p h1 h2
    · rw [h.rest q (by omega), h.rest p (by omega)]; exact M.l p q h1 h2 (by omega)

/-- the search for where both stretches are cut -/
structure FindM (tt : α → α → Prop) (a m b n s0 r0 s r : Nat) (d : Array α) : Prop where
  s0s : s0 ≤ s
  sr : s ≤ r
  rr0 : r ≤ r0
  lo : ∀ k, s0 ≤ k → k < s → tt d[k]! d[n - 1 - k]!
  hi : ∀ k, r ≤ k → k < r0 → tt d[n - 1 - k]! d[k]!

/-- the bounds of that search -/
structure CutB (a m b n s0 r0 : Nat) : Prop where
  am : a < m
  mb : m < b
  n_ : n = (a + b) / 2 + m
  s0r0 : s0 ≤ r0
  as0 : a ≤ s0
  r0m : r0 ≤ m
  nb : ∀ k, s0 ≤ k → k < r0 → m ≤ n - 1 - k ∧ n - 1 - k < b
  s0_ : (s0 = a ∧ m ≤ (a + b) / 2) ∨ n - s0 = b
  r0_ : r0 = m ∨ n - r0 = m
  r0n : r0 ≤ (a + b) / 2

theorem CutB.right {a m b : Nat} (am : a + 1 < m) (mb : m + 1 < b) (h : (a + b) / 2 < m) : CutB a m b ((a + b) / 2 + m) ((a + b) / 2 + m - b) ((a + b) / 2) :=
  ⟨by omega, by omega, rfl, by omega, by omega, by omega, fun k h1 h2 => by omega, by omega, by omega, by omega⟩
theorem CutB.left {a m b : Nat} (am : a + 1 < m) (mb : m + 1 < b) (h : ¬ (a + b) / 2 < m) : CutB a m b ((a + b) / 2 + m) a m :=
  ⟨by omega, by omega, rfl, by omega, by omega, by omega, fun k h1 h2 => by omega, by omega, by omega, by omega⟩

theorem FindM.start {a m b n s0 r0 : Nat} {d : Array α} (C : CutB a m b n s0 r0) : FindM tt a m b n s0 r0 s0 r0 d := ⟨Nat.le_refl _, C.s0r0, Nat.le_refl _, fun k h1 h2 => by omega, fun k h1 h2 => by omega⟩
theorem FindM.up (T : Tot lt tt pl) {a m b n s0 r0 s r : Nat} {d : Array α} (M : Mrg tt pl a m b d) (C : CutB a m b n s0 r0) (h : FindM tt a m b n s0 r0 s r d) {x : Nat} (h1 : s ≤ x) (h2 : x < r) (hl : lt d[n - 1 - x]! d[x]! = false) : FindM tt a m b n s0 r0 (x + 1) r d := by
  obtain ⟨s0s, sr, rr0, lo, hi⟩ := h
  have c := C.nb x (by omega) (by omega)
  have as0 := C.as0
  have r0m := C.r0m
  have ht : tt d[x]! d[n - 1 - x]! := T.more (M.lr x (n - 1 - x) (by omega) (by omega) c.1 c.2) hl
  exact ⟨by omega, by omega, rr0, fun k k1 k2 => by
    by_cases e : k = x
    · rw [e]; exact ht
    · have ck := C.nb k k1 (by omega)
      exact T.trans (M.l k x (by omega) (by omega) (by omega)) (T.trans ht (M.r (n - 1 - x) (n - 1 - k) (by omega) (by omega) ck.2)), hi⟩
theorem FindM.down (T : Tot lt tt pl) {a m b n s0 r0 s r : Nat} {d : Array α} (M : Mrg tt pl a m b d) (C : CutB a m b n s0 r0) (h : FindM tt a m b n s0 r0 s r d) {x : Nat} (h1 : s ≤ x) (h2 : x < r) (hl : lt d[n - 1 - x]! d[x]! = true) : FindM tt a m b n s0 r0 s x d := by
  obtain ⟨s0s, sr, rr0, lo, hi⟩ := h
  have c := C.nb x (by omega) (by omega)
  have as0 := C.as0
  have r0m := C.r0m
  have ht : tt d[n - 1 - x]! d[x]! := T.less (M.lr x (n - 1 - x) (by omega) (by omega) c.1 c.2) hl
  exact ⟨s0s, h1, by omega, lo, fun k k1 k2 => by
    by_cases e : k = x
    · rw [e]; exact ht
    · have ck := C.nb k (by omega) k2
      exact T.trans (M.r (n - 1 - k) (n - 1 - x) (by omega) (by omega) (by omega)) (T.trans ht (M.l x k (by omega) (by omega) (by omega)))⟩

/-- where both are cut -/
structure Cut (tt : α → α → Prop) (a m b mid s e : Nat) (d : Array α) : Prop where
  as_ : a ≤ s
  sm : s ≤ m
  me : m ≤ e
  eb : e ≤ b
  mid_ : mid + m = s + e
  am : a < mid
  mb : mid < b
  l1r2 : ∀ p q, a ≤ p → p < s → e ≤ q → q < b → tt d[p]! d[q]!
  r1l2 : ∀ p q, s ≤ p → p < m → m ≤ q → q < e → tt d[q]! d[p]!

theorem FindM.cut (T : Tot lt tt pl) {a m b n s0 r0 s : Nat} {d : Array α} (M : Mrg tt pl a m b d) (C : CutB a m b n s0 r0) (F : FindM tt a m b n s0 r0 s s d) (hab : a + 2 ≤ b) : Cut tt a m b ((a + b) / 2) s (n - s) d := by
  obtain ⟨s0s, sr, rr0, lo, hi⟩ := F
  have h1 := C.n_
  have h2 := C.s0_
  have h3 := C.r0_
  have h4 := C.r0n
  have h5 := C.as0
  have h6 := C.r0m
  have am := C.am
  have mb := C.mb
  have ne : m ≤ n - s := by
    rcases h3 with h | h
    · omega
    · omega
  have nb : n - s ≤ b := by
    by_cases c : s0 < s
    · have := C.nb (s - 1) (by omega) (by omega); omega
    · have hs : s = s0 := by omega
      rcases h2 with ⟨h, h'⟩ | h
      · subst hs; omega
      · rw [hs]; omega
  refine ⟨by omega, by omega, ne, nb, by omega, by omega, by omega, fun p q p1 p2 q1 q2 => ?_, fun p q p1 p2 q1 q2 => ?_⟩
  · by_cases c : s0 < s
    · have c1 := C.nb (s - 1) (by omega) (by omega)
      have ht := lo (s - 1) (by omega) (by omega)
      have h8 : tt d[p]! d[n - 1 - (s - 1)]! := by
        by_cases e : p = s - 1
        · rw [e]; exact ht
        · exact T.trans (M.l p (s - 1) p1 (by omega) (by omega)) ht
      by_cases e : q = n - 1 - (s - 1)
      · rw [e]; exact h8
      · exact T.trans h8 (M.r _ q (by omega) (by omega) q2)
    · rcases h2 with ⟨h, _⟩ | h <;> omega
  · by_cases c : s < r0
    · have c1 := C.nb s (by omega) c
      have ht := hi s (Nat.le_refl _) c
      have h8 : tt d[q]! d[s]! := by
        by_cases e : q = n - 1 - s
        · rw [e]; exact ht
        · exact T.trans (M.r q (n - 1 - s) q1 (by omega) (by omega)) ht
      by_cases e : p = s
      · rw [e]; exact h8
      · exact T.trans h8 (M.l s p (by omega) (by omega) p2)
    · rcases h3 with h | h <;> omega

/-- behind the turn: two merges, or stretches that are in order -/
structure Halves (tt : α → α → Prop) (pl : α → Nat) (a m b mid s e : Nat) (d d' : Array α) : Prop where
  perm : PermIn a b d d'
  l1 : SortT tt a s d'
  r1 : SortT tt s mid d'
  l2 : SortT tt mid e d'
  r2 : SortT tt e b d'
  p1 : ∀ p q, a ≤ p → p < s → s ≤ q → q < mid → pl d'[p]! < pl d'[q]!
  p2 : ∀ p q, mid ≤ p → p < e → e ≤ q → q < b → pl d'[p]! < pl d'[q]!
  x : ∀ p q, a ≤ p → p < mid → mid ≤ q → q < b → tt d'[p]! d'[q]!

/-- where each one comes from -/
theorem Cut.from {a m b mid s e : Nat} {d d' : Array α} (C : Cut tt a m b mid s e d) (hd : (Rotated s m e d d' ∧ s < m ∧ m < e) ∨ (d' = d ∧ (s = m ∨ e = m))) :
    (∀ k, a ≤ k → k < s → d'[k]! = d[k]!) ∧ (∀ k, s ≤ k → k < mid → d'[k]! = d[k - s + m]!) ∧ (∀ k, mid ≤ k → k < e → d'[k]! = d[k - mid + s]!) ∧ (∀ k, e ≤ k → d'[k]! = d[k]!) := by
  obtain ⟨c1, c2, c3, c4, c5, c6, c7, _, _⟩ := C
  rcases hd with ⟨R, h1, h2⟩ | ⟨rfl, h⟩
  · refine ⟨fun k k1 k2 => pout R.perm (Or.inl k2), fun k k1 k2 => ?_, fun k k1 k2 => ?_, fun k k1 => pout R.perm (Or.inr k1)⟩
    · rw [R.get k k1 (by omega)]; unfold tgt; rw [if_pos (by omega)]; congr 1; omega
    · rw [R.get k (by omega) k2]; unfold tgt; rw [if_neg (by omega)]; congr 1; omega
  · refine ⟨fun _ _ _ => rfl, fun k k1 k2 => ?_, fun k k1 k2 => ?_, fun _ _ => rfl⟩
    · congr 1; omega
    · congr 1; omega

theorem Cut.halves (T : Tot lt tt pl) {a m b mid s e : Nat} {d d' : Array α} (M : Mrg tt pl a m b d) (C : Cut tt a m b mid s e d) (hd : (Rotated s m e d d' ∧ s < m ∧ m < e) ∨ (d' = d ∧ (s = m ∨ e = m))) : Halves tt pl a m b mid s e d d' := by
  obtain ⟨g1, g2, g3, g4⟩ := C.from hd
  obtain ⟨c1, c2, c3, c4, c5, c6, c7, x1, x2⟩ := C
  have bs := M.bs
  refine ⟨?_, ?_, ?_, ?_, ?_, ?_, ?_, ?_⟩
  · rcases hd with ⟨R, _, _⟩ | ⟨rfl, _⟩
    · exact pmono R.perm c1 c4 bs
    · exact prefl _ _ _
  · intro i j h1 h2 h3; rw [g1 i h1 (by omega), g1 j (by omega) h3]; exact M.l i j h1 h2 (by omega)
  · intro i j h1 h2 h3; rw [g2 i h1 (by omega), g2 j (by omega) h3]; exact M.r _ _ (by omega) (by omega) (by omega)
  · intro i j h1 h2 h3; rw [g3 i h1 (by omega), g3 j (by omega) h3]; exact M.l _ _ (by omega) (by omega) (by omega)
  · intro i j h1 h2 h3; rw [g4 i h1, g4 j (by omega)]; exact M.r i j (by omega) h2 h3
  · intro p q h1 h2 h3 h4; rw [g1 p h1 h2, g2 q h3 h4]; exact M.lr _ _ h1 (by omega) (by omega) (by omega)
  · intro p q h1 h2 h3 h4; rw [g3 p h1 h2, g4 q h3]; exact M.lr _ _ (by omega) (by omega) (by omega) h4
  · intro p q h1 h2 h3 h4
    by_cases cp : p < s
    · rw [g1 p h1 cp]
      by_cases cq : q < e
      · rw [g3 q h3 cq]; exact M.l _ _ h1 (by omega) (by omega)
      · rw [g4 q (by omega)]; exact x1 p q h1 cp (by omega) h4
    · rw [g2 p (by omega) h2]
      by_cases cq : q < e
      · rw [g3 q h3 cq]; exact x2 _ _ (by omega) (by omega) (by omega) (by omega)
      · rw [g4 q (by omega)]; exact M.r _ _ (by omega) (by omega) h4

theorem Halves.first {a m b mid s e : Nat} {d d' : Array α} (M : Mrg tt pl a m b d) (C : Cut tt a m b mid s e d) (h : Halves tt pl a m b mid s e d d') (h1 : a < s) (h2 : s < mid) : Mrg tt pl a s mid d' := by
  have := psize h.perm
  exact ⟨h1, h2, by have := M.bs; have := C.mb; omega, h.l1, h.r1, h.p1⟩
theorem Halves.none1 {a m b mid s e : Nat} {d d' : Array α} (C : Cut tt a m b mid s e d) (h : Halves tt pl a m b mid s e d d') (h1 : ¬ (a < s ∧ s < mid)) : Mgd tt a mid d' d' := by
  refine ⟨prefl _ _ _, ?_⟩
  have c1 := C.as_
  by_cases c : a < s
  · exact h.l1.part (Nat.le_refl _) (by omega)
  · exact h.r1.part (by omega) (Nat.le_refl _)
theorem Halves.second {a m b mid s e : Nat} {d d' d2 : Array α} (M : Mrg tt pl a m b d) (C : Cut tt a m b mid s e d) (h : Halves tt pl a m b mid s e d d') (g : Mgd tt a mid d' d2) (h1 : mid < e) (h2 : e < b) : Mrg tt pl mid e b d2 := by
  have e1 := psize h.perm
  have e2 := psize g.1
  have o : ∀ k, mid ≤ k → d2[k]! = d'[k]! := fun k hk => pout g.1 (Or.inr hk)
  refine ⟨h1, h2, by have := M.bs; omega, h.l2.same fun i hi _ => o i hi, h.r2.same fun i hi _ => o i (by omega), fun p q p1 p2 q1 q2 => ?_⟩
  rw [o p p1, o q (by omega)]; exact h.p2 p q p1 p2 q1 q2
theorem Halves.none2 {a m b mid s e : Nat} {d d' d2 : Array α} (C : Cut tt a m b mid s e d) (h : Halves tt pl a m b mid s e d d') (g : Mgd tt a mid d' d2) (h1 : ¬ (mid < e ∧ e < b)) : Mgd tt mid b d2 d2 := by
  have o : ∀ k, mid ≤ k → d2[k]! = d'[k]! := fun k hk => pout g.1 (Or.inr hk)
  refine ⟨prefl _ _ _, ?_⟩
  have c1 := C.eb
  by_cases c : mid < e
  · exact (h.l2.part (Nat.le_refl _) (by omega)).same fun i hi _ => o i hi
  · exact (h.r2.part (by omega) (Nat.le_refl _)).same fun i hi _ => o i hi
theorem Halves.done {a m b mid s e : Nat} {d d' d2 d3 : Array α} (M : Mrg tt pl a m b d) (C : Cut tt a m b mid s e d) (h : Halves tt pl a m b mid s e d d') (g : Mgd tt a mid d' d2) (g' : Mgd tt mid b d2 d3) : Mgd tt a b d d3 := by
  have bs := M.bs
  have am := C.am
  have mb := C.mb
  have e1 := psize h.perm
  have e2 := psize g.1
  refine ⟨ptrans h.perm (ptrans (pmono g.1 (Nat.le_refl _) (by omega) (by omega)) (pmono g'.1 (by omega) (Nat.le_refl _) (by omega))), ?_⟩
  have x2 : ∀ p q, a ≤ p → p < mid → mid ≤ q → q < b → tt d2[p]! d2[q]! := fun p q p1 p2 q1 q2 => by
    rw [pout g.1 (i := q) (Or.inr q1)]
    exact all_of_perm g.1 (by omega) (fun y => tt y d'[q]!) (fun k k1 k2 => h.x k q k1 k2 q1 q2) p p1 p2
  refine (g.2.same fun i _ hi => pout g'.1 (Or.inl hi)).join g'.2 fun p q p1 p2 q1 q2 => ?_
  rw [pout g'.1 (i := p) (Or.inl p2)]
  exact all_of_perm g'.1 (by omega) (fun y => tt d2[p]! y) (fun k k1 k2 => x2 p k p1 p2 k1 k2) q q1 q2

/-! ### blocks of twice the size -/
/-- the stretch is in order, and holds those that were there at first -/
def Good (tt : α → α → Prop) (pl : α → Nat) (a b : Nat) (d : Array α) : Prop := SortT tt a b d ∧ ∀ i, a ≤ i → i < b → a ≤ pl d[i]! ∧ pl d[i]! < b

theorem Good.same {a b : Nat} {d d' : Array α} (h : Good tt pl a b d) (he : ∀ i, a ≤ i → i < b → d'[i]! = d[i]!) : Good tt pl a b d' :=
  ⟨h.1.same he, fun i h1 h2 => by rw [he i h1 h2]; exact h.2 i h1 h2⟩
theorem Good.mrg {a m b : Nat} {d : Array α} (h1 : Good tt pl a m d) (h2 : Good tt pl m b d) (am : a < m) (mb : m < b) (bs : b ≤ d.size) : Mrg tt pl a m b d :=
  ⟨am, mb, bs, h1.1, h2.1, fun p q p1 p2 q1 q2 => by have := h1.2 p p1 p2; have := h2.2 q q1 q2; omega⟩
theorem Good.mgd {a m b : Nat} {d d' : Array α} (h1 : Good tt pl a m d) (h2 : Good tt pl m b d) (am : a ≤ m) (mb : m ≤ b) (bs : b ≤ d.size) (g : Mgd tt a b d d') : Good tt pl a b d' :=
  ⟨g.2, all_of_perm g.1 bs (fun x => a ≤ pl x ∧ pl x < b) fun i i1 i2 => by
    by_cases c : i < m
    · have := h1.2 i i1 c; omega
    · have := h2.2 i (by omega) i2; omega⟩
theorem Good.none {a b : Nat} {d : Array α} (h : b ≤ a) : Good tt pl a b d := ⟨fun i j h1 h2 h3 => by omega, fun i h1 h2 => by omega⟩

/-- all stretches of that size are -/
def Blocks (tt : α → α → Prop) (pl : α → Nat) (s lo n : Nat) (d : Array α) : Prop := ∀ k, lo ≤ k * s → k * s < n → Good tt pl (k * s) (min (k * s + s) n) d

end Go.Proofs.Ytkmoibikempieaa
