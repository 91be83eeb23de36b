/- A disk kept as what is read and, of each block that was written since, what stood: as lists, plain. -/
import Derived.Test.YtehfbafocbcfnaaDiskKeep
import Derived.Laws.CopyOwn
namespace Go.Proofs.Ytehfbafocbcfnaa
open Go
set_option linter.unusedVariables false

theorem getD_over {α : Type} (l : List α) (d : α) {i : Nat} (h : l.length ≤ i) : l.getD i d = d := by simp [List.getD_eq_getElem?_getD, h]
theorem getD_right {α : Type} (l r : List α) (d : α) (i : Nat) (h : l.length ≤ i) : (l ++ r).getD i d = r.getD (i - l.length) d := by simp [List.getD_eq_getElem?_getD, List.getElem?_append_right h]
theorem getD_ext {α : Type} {l r : List α} (d : α) (hl : l.length = r.length) (h : ∀ j, l.getD j d = r.getD j d) : l = r := by
  refine List.ext_getElem hl fun j h1 h2 => ?_
  have := h j
  simpa [List.getD_eq_getElem?_getD, h1, h2] using this

/-- a block's bytes -/
def blk (l : List Nat) (b : Nat) : List Nat := (l.drop (64 * b)).take 64
theorem blk_len {l : List Nat} {n b : Nat} (h : l.length = 64 * n) (hb : b < n) : (blk l b).length = 64 := by simp [blk]; omega
theorem blk_get (l : List Nat) (b j : Nat) (hj : j < 64) : (blk l b).getD j 0 = l.getD (64 * b + j) 0 := slice_get l (64 * b) 64 j hj
theorem blk_same {l r : List Nat} {n b : Nat} (hl : l.length = 64 * n) (hr : r.length = 64 * n) (hb : b < n) : blk l b = blk r b ↔ ∀ j, j < 64 → l.getD (64 * b + j) 0 = r.getD (64 * b + j) 0 := by
  constructor
  · intro h j hj
    rw [← blk_get l b j hj, ← blk_get r b j hj, h]
  · intro h
    refine getD_ext 0 (by rw [blk_len hl hb, blk_len hr hb]) fun j => ?_
    by_cases hj : j < 64
    · rw [blk_get l b j hj, blk_get r b j hj, h j hj]
    · rw [getD_over _ _ (by rw [blk_len hl hb]; omega), getD_over _ _ (by rw [blk_len hr hb]; omega)]

theorem splice_get (L : List Nat) (off : Nat) (cs : List Nat) (h : off + cs.length ≤ L.length) (j : Nat) : (splice L off cs).getD j 0 = if off ≤ j ∧ j < off + cs.length then cs.getD (j - off) 0 else L.getD j 0 := by
  have h1 : (L.take off).length = off := by simp; omega
  unfold splice
  simp only [List.getD_eq_getElem?_getD]
  by_cases ha : j < off
  · rw [List.getElem?_append_left (by rw [h1]; exact ha), List.getElem?_take_of_lt ha, if_neg (by omega)]
  · rw [List.getElem?_append_right (by rw [h1]; omega), h1]
    by_cases hb : j < off + cs.length
    · rw [List.getElem?_append_left (by omega), if_pos ⟨by omega, hb⟩]
    · rw [List.getElem?_append_right (by omega), if_neg (by omega), List.getElem?_drop]
      congr 2
      omega
theorem splice_map {α β : Type} (f : α → β) (L : List α) (off : Nat) (cs : List α) : (splice L off cs).map f = splice (L.map f) off (cs.map f) := by
  simp [splice, List.map_take, List.map_drop]
theorem putN_splice (nw : List Nat) (p : Nat) (bs : List Nat) (h : p + bs.length ≤ nw.length) : putN nw p bs bs.length = splice nw p bs := by
  refine getD_ext 0 (by rw [putN_len, length_splice _ _ _ h]) fun j => ?_
  rw [putN_get nw p bs bs.length h j, splice_get nw p bs h j]

/-- blocks from one on -/
def dirB (di : List Bool) (a : Nat) : Nat → List Bool
  | 0 => di
  | k + 1 => (dirB di a k).set (a + k) true
theorem dirB_len (di : List Bool) (a k : Nat) : (dirB di a k).length = di.length := by
  induction k with
  | zero => rfl
  | succ k ih => simp [dirB, ih]
theorem dirB_get (di : List Bool) (a k : Nat) (h : a + k ≤ di.length) (j : Nat) : (dirB di a k).getD j false = true ↔ di.getD j false = true ∨ (a ≤ j ∧ j < a + k) := by
  induction k with
  | zero => simp only [dirB]; exact ⟨Or.inl, fun h => h.elim id (fun h => by omega)⟩
  | succ k ih =>
    have ih := ih (by omega)
    simp only [dirB]
    rw [set_get]
    by_cases hj : a + k = j ∧ a + k < (dirB di a k).length
    · rw [if_pos hj]
      exact ⟨fun _ => Or.inr ⟨by omega, by omega⟩, fun _ => rfl⟩
    · rw [if_neg hj, ih]
      rw [dirB_len] at hj
      constructor
      · rintro (h | h)
        · exact Or.inl h
        · exact Or.inr ⟨by omega, by omega⟩
      · rintro (h | h)
        · exact Or.inl h
        · exact Or.inr ⟨by omega, by omega⟩
theorem bool_ext {l r : List Bool} (hl : l.length = r.length) (h : ∀ j, l.getD j false = true ↔ r.getD j false = true) : l = r :=
  getD_ext false hl fun j => by
    have := h j
    cases h1 : l.getD j false <;> cases h2 : r.getD j false <;> simp_all
theorem dirB_dirN (di : List Bool) (p m k : Nat) (hm : 0 < m) (h : p + m ≤ 64 * di.length) (hk : p + m ≤ 64 * (p / 64 + k)) (hk2 : 64 * (p / 64 + k) < p + m + 64) : dirB di (p / 64) k = dirN di p m := by
  refine bool_ext (by rw [dirB_len, dirN_len]) fun j => ?_
  rw [dirB_get di (p / 64) k (by omega) j, dirN_get di p m h j]
  refine or_congr Iff.rfl ?_
  constructor
  · rintro ⟨h1, h2⟩
    by_cases h3 : p / 64 = j
    · exact ⟨p, by omega, by omega, h3⟩
    · exact ⟨64 * j, by omega, by omega, by omega⟩
  · rintro ⟨q, h1, h2, rfl⟩
    constructor <;> omega

/-- the places of the blocks that were written, rising -/
def ksN (di : List Bool) : Nat → List Nat
  | 0 => []
  | b + 1 => if di.getD b false = true then ksN di b ++ [b] else ksN di b
theorem ksN_len (di : List Bool) (b : Nat) : (ksN di b).length = manyN di b := by
  induction b with
  | zero => rfl
  | succ b ih => simp only [ksN, manyN]; split <;> simp [ih]
theorem ksN_mem (di : List Bool) (b x : Nat) : x ∈ ksN di b ↔ x < b ∧ di.getD x false = true := by
  induction b with
  | zero => simp [ksN]
  | succ b ih =>
    simp only [ksN]
    split
    · rename_i hb
      rw [List.mem_append, ih, List.mem_singleton]
      constructor
      · rintro (h | rfl)
        · exact ⟨by omega, h.2⟩
        · exact ⟨by omega, hb⟩
      · rintro ⟨h1, h2⟩
        by_cases h3 : x = b
        · exact Or.inr h3
        · exact Or.inl ⟨by omega, h2⟩
    · rename_i hb
      rw [ih]
      constructor
      · rintro h; exact ⟨by omega, h.2⟩
      · rintro ⟨h1, h2⟩
        have : x ≠ b := fun e => hb (e ▸ h2)
        exact ⟨by omega, h2⟩
theorem ksN_sorted (di : List Bool) (b : Nat) : (ksN di b).Pairwise (· < ·) := by
  induction b with
  | zero => simp [ksN]
  | succ b ih =>
    simp only [ksN]
    split
    · refine List.pairwise_append.2 ⟨ih, by simp, fun x hx y hy => ?_⟩
      have := (ksN_mem di b x).1 hx
      rw [List.mem_singleton] at hy
      omega
    · exact ih
theorem ksN_pre (di : List Bool) (b n : Nat) (h : b ≤ n) : ∃ r, ksN di n = ksN di b ++ r := by
  induction n with
  | zero =>
    obtain rfl : b = 0 := by omega
    exact ⟨[], by simp⟩
  | succ n ih =>
    by_cases hb : b = n + 1
    · exact ⟨[], by simp [hb]⟩
    · obtain ⟨r, hr⟩ := ih (by omega)
      simp only [ksN]
      split
      · exact ⟨r ++ [n], by rw [hr, List.append_assoc]⟩
      · exact ⟨r, hr⟩
theorem ksN_get (di : List Bool) (b n : Nat) (hb : b < n) (hd : di.getD b false = true) : (ksN di n).getD (manyN di b) 0 = b := by
  obtain ⟨r, hr⟩ := ksN_pre di (b + 1) n hb
  rw [hr]
  simp only [ksN]
  rw [if_pos hd, ← ksN_len, List.append_assoc, getD_right _ _ _ _ (Nat.le_refl _)]
  simp
theorem manyN_step (di : List Bool) (b : Nat) (hd : di.getD b false = true) : manyN di (b + 1) = manyN di b + 1 := by simp only [manyN]; rw [if_pos hd]
theorem manyN_stay (di : List Bool) (b : Nat) (hd : ¬ di.getD b false = true) : manyN di (b + 1) = manyN di b := by simp only [manyN]; rw [if_neg hd]

/-- how many bytes of the i-th block are kept -/
def keptOf (picks : List Int) (i : Nat) : Nat := (min (max (picks.getD i 0) 0) 64).toNat
theorem keptOf_le (picks : List Int) (i : Nat) : keptOf picks i ≤ 64 := by unfold keptOf; omega
/-- what is read, block by block of those that were written -/
def cwN (st nw : List Nat) (ks : List Nat) (picks : List Int) : Nat → List Nat
  | 0 => nw
  | i + 1 => splice (cwN st nw ks picks i) (64 * ks.getD i 0 + keptOf picks i) ((blk st (ks.getD i 0)).drop (keptOf picks i))
theorem cwN_fit {st l : List Nat} {n b k : Nat} (hs : st.length = 64 * n) (hl : l.length = 64 * n) (hb : b < n) (hk : k ≤ 64) : 64 * b + k + ((blk st b).drop k).length ≤ l.length := by
  rw [List.length_drop, blk_len hs hb]; omega
theorem cwN_len {st nw : List Nat} {di : List Bool} {n : Nat} (hs : st.length = 64 * n) (hw : nw.length = 64 * n) (picks : List Int) (i : Nat) (hi : i ≤ (ksN di n).length) : (cwN st nw (ksN di n) picks i).length = 64 * n := by
  induction i with
  | zero => exact hw
  | succ i ih =>
    have ih := ih (by omega)
    have hm : (ksN di n).getD i 0 < n := by
      have : (ksN di n).getD i 0 ∈ ksN di n := by
        rw [List.getD_eq_getElem?_getD, List.getElem?_eq_getElem (by omega)]
        exact List.getElem_mem _
      exact ((ksN_mem di n _).1 this).1
    simp only [cwN]
    rw [length_splice _ _ _ (cwN_fit hs ih hm (keptOf_le _ _)), ih]

theorem crsN_many (st nw : List Nat) (di : List Bool) (picks : List Int) (b : Nat) : (crsN st nw di picks b).2 = manyN di b := by
  induction b with
  | zero => rfl
  | succ b ih => simp only [crsN, manyN]; split <;> simp [ih]
theorem crsN_far (st nw : List Nat) (di : List Bool) (picks : List Int) (b : Nat) (hb : 64 * b ≤ st.length) (x : Nat) (hx : 64 * b ≤ x) : (crsN st nw di picks b).1.getD x 0 = st.getD x 0 := by
  induction b with
  | zero => rfl
  | succ b ih =>
    have ih := ih (by omega) (by omega)
    simp only [crsN]
    split
    · show (pkN _ _ _ _ 64).getD x 0 = _
      rw [pkN_get _ _ _ _ 64 (by rw [crsN_len]; omega), if_neg (by omega), ih]
    · exact ih

/-- no block that wasn't written since is read otherwise than it stands -/
def Clean (st nw : List Nat) (di : List Bool) (n : Nat) : Prop := ∀ b, b < n → ¬ di.getD b false = true → ∀ j, j < 64 → st.getD (64 * b + j) 0 = nw.getD (64 * b + j) 0

theorem cw_crs {st nw : List Nat} {di : List Bool} {n : Nat} (hs : st.length = 64 * n) (hw : nw.length = 64 * n) (hc : Clean st nw di n) (picks : List Int) (b : Nat) (hb : b ≤ n) (x : Nat) :
    (cwN st nw (ksN di n) picks (manyN di b)).getD x 0 = if x < 64 * b then (crsN st nw di picks b).1.getD x 0 else nw.getD x 0 := by
  induction b generalizing x with
  | zero => simp [manyN, cwN]
  | succ b ih =>
    have ih := ih (by omega)
    by_cases hd : di.getD b false = true
    · rw [manyN_step di b hd]
      have hmany : manyN di b ≤ (ksN di n).length := by
        obtain ⟨r, hr⟩ := ksN_pre di b n (by omega)
        rw [hr, List.length_append, ksN_len]; omega
      have hlen := cwN_len (di := di) hs hw picks (manyN di b) hmany
      have hk := keptOf_le picks (manyN di b)
      simp only [cwN]
      rw [ksN_get di b n (by omega) hd, splice_get _ _ _ (cwN_fit hs hlen (by omega) hk), ih x]
      have hdl : ((blk st b).drop (keptOf picks (manyN di b))).length = 64 - keptOf picks (manyN di b) := by rw [List.length_drop, blk_len hs (by omega)]
      rw [hdl]
      have hcr : (crsN st nw di picks (b + 1)).1 = pkN (crsN st nw di picks b).1 nw (64 * b) (picks.getD (manyN di b) 0) 64 := by
        simp only [crsN]
        rw [if_pos hd, crsN_many]
      rw [hcr, pkN_get _ _ _ _ 64 (by rw [crsN_len]; omega)]
      have hkd : keptOf picks (manyN di b) = (min (max (picks.getD (manyN di b) 0) 0) 64).toNat := rfl
      by_cases h1 : x < 64 * b
      · rw [if_neg (by omega), if_pos h1, if_pos (by omega), if_neg (by omega)]
      · by_cases h2 : x < 64 * (b + 1)
        · rw [if_pos h2]
          by_cases h3 : 64 * b + keptOf picks (manyN di b) ≤ x
          · rw [if_pos ⟨h3, by omega⟩, if_neg (by omega), crsN_far st nw di picks b (by omega) x (by omega)]
            have : ((blk st b).drop (keptOf picks (manyN di b))).getD (x - (64 * b + keptOf picks (manyN di b))) 0 = (blk st b).getD (x - 64 * b) 0 := by
              rw [List.getD_eq_getElem?_getD, List.getElem?_drop, List.getD_eq_getElem?_getD]
              congr 2
              omega
            rw [this, blk_get st b _ (by omega)]
            congr 1
            omega
          · rw [if_neg (by omega), if_neg h1, if_pos ⟨by omega, by omega, by omega⟩]
        · rw [if_neg (by omega), if_neg h1, if_neg h2]
    · rw [manyN_stay di b hd, ih x]
      have hcr : (crsN st nw di picks (b + 1)).1 = (crsN st nw di picks b).1 := by
        simp only [crsN]
        rw [if_neg hd]
      rw [hcr]
      by_cases h1 : x < 64 * b
      · rw [if_pos h1, if_pos (by omega)]
      · by_cases h2 : x < 64 * (b + 1)
        · rw [if_neg h1, if_pos h2, crsN_far st nw di picks b (by omega) x (by omega)]
          have := hc b (by omega) hd (x - 64 * b) (by omega)
          rw [show 64 * b + (x - 64 * b) = x by omega] at this
          exact this.symm
        · rw [if_neg h1, if_neg h2]

theorem cw_all {st nw : List Nat} {di : List Bool} {n : Nat} (hs : st.length = 64 * n) (hw : nw.length = 64 * n) (hc : Clean st nw di n) (picks : List Int) :
    cwN st nw (ksN di n) picks (ksN di n).length = (crsN st nw di picks n).1 := by
  have hl := cwN_len (di := di) hs hw picks _ (Nat.le_refl _)
  refine getD_ext 0 (by rw [hl, crsN_len, hs]) fun x => ?_
  rw [ksN_len, cw_crs hs hw hc picks n (Nat.le_refl _) x]
  by_cases hx : x < 64 * n
  · rw [if_pos hx]
  · rw [if_neg hx, getD_over _ _ (by omega), getD_over _ _ (by rw [crsN_len]; omega)]

theorem Clean.same {nw : List Nat} {di : List Bool} {n : Nat} : Clean nw nw di n := fun _ _ _ _ _ => rfl
/-- a write -/
theorem Clean.write {st nw : List Nat} {di : List Bool} {n p : Nat} {bs : List Nat} (hw : nw.length = 64 * n) (hd : di.length = n) (hc : Clean st nw di n) (h : p + bs.length ≤ 64 * n) : Clean st (putN nw p bs bs.length) (dirN di p bs.length) n := by
  intro b hb hn j hj
  rw [dirN_get di p bs.length (by rw [hd]; exact h) b] at hn
  have h1 : ¬ di.getD b false = true := fun h => hn (Or.inl h)
  rw [hc b hb h1 j hj, putN_get nw p bs bs.length (by rw [hw]; exact h), if_neg]
  exact fun hh => hn (Or.inr ⟨64 * b + j, hh.1, hh.2, by omega⟩)
end Go.Proofs.Ytehfbafocbcfnaa
