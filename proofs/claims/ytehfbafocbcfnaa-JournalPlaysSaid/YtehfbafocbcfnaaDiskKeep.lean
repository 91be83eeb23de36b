/- What follows of a disk by definition: what was synced is there behind a crash; a crash of all picks of 64 is a sync. Plain. -/
import Derived.Test.YtehfbafocbcfnaaDiskNum
namespace Go.Proofs.Ytehfbafocbcfnaa
set_option linter.unusedVariables false

theorem set_get {α : Type} (l : List α) (i j : Nat) (v d : α) : (l.set i v).getD j d = if i = j ∧ i < l.length then v else l.getD j d := by
  simp only [List.getD_eq_getElem?_getD, List.getElem?_set]
  by_cases h : i = j
  · subst h
    by_cases h2 : i < l.length
    · simp [h2]
    · simp [h2]
  · simp [h]

theorem putN_get (nw : List Nat) (p : Nat) (bs : List Nat) (i : Nat) (hi : p + i ≤ nw.length) (j : Nat) : (putN nw p bs i).getD j 0 = if p ≤ j ∧ j < p + i then bs.getD (j - p) 0 else nw.getD j 0 := by
  induction i with
  | zero => rw [if_neg (by omega)]; rfl
  | succ i ih =>
    have ih := ih (by omega)
    simp only [putN]
    rw [set_get, putN_len]
    by_cases h : p + i = j
    · subst h
      rw [if_pos ⟨rfl, by omega⟩, if_pos ⟨by omega, by omega⟩, Nat.add_sub_cancel_left]
    · rw [if_neg (fun h' => h h'.1), ih]
      by_cases h2 : p ≤ j ∧ j < p + i
      · rw [if_pos h2, if_pos ⟨h2.1, by omega⟩]
      · rw [if_neg h2, if_neg (by omega)]

theorem dirN_get (di : List Bool) (p i : Nat) (hi : p + i ≤ 64 * di.length) (b : Nat) : (dirN di p i).getD b false = true ↔ di.getD b false = true ∨ ∃ j, p ≤ j ∧ j < p + i ∧ j / 64 = b := by
  induction i with
  | zero =>
    simp only [dirN]
    exact ⟨Or.inl, fun h => h.elim id fun ⟨j, h1, h2, _⟩ => by omega⟩
  | succ i ih =>
    have ih := ih (by omega)
    simp only [dirN]
    rw [set_get, dirN_len]
    by_cases h : (p + i) / 64 = b
    · rw [if_pos ⟨h, by omega⟩]
      exact ⟨fun _ => Or.inr ⟨p + i, by omega, by omega, h⟩, fun _ => rfl⟩
    · rw [if_neg (fun h' => h h'.1), ih]
      constructor
      · rintro (h1 | ⟨j, h1, h2, h3⟩)
        · exact Or.inl h1
        · exact Or.inr ⟨j, h1, by omega, h3⟩
      · rintro (h1 | ⟨j, h1, h2, h3⟩)
        · exact Or.inl h1
        · refine Or.inr ⟨j, h1, ?_, h3⟩
          rcases Nat.lt_or_ge j (p + i) with h4 | h4
          · exact h4
          · exact absurd (by rw [show p + i = j by omega]; exact h3) h

theorem pkN_get (st nw : List Nat) (base : Nat) (pk : Int) (i : Nat) (hi : base + i ≤ st.length) (j : Nat) : (pkN st nw base pk i).getD j 0 = if base ≤ j ∧ j < base + i ∧ ((j - base : Nat) : Int) < pk then nw.getD j 0 else st.getD j 0 := by
  induction i with
  | zero => rw [if_neg (by omega)]; rfl
  | succ i ih =>
    have ih := ih (by omega)
    simp only [pkN]
    by_cases hp : (i : Int) < pk
    · rw [if_pos hp, set_get, pkN_len]
      by_cases h : base + i = j
      · subst h
        rw [if_pos ⟨rfl, by omega⟩, if_pos ⟨by omega, by omega, by rw [Nat.add_sub_cancel_left]; exact hp⟩]
      · rw [if_neg (fun h' => h h'.1), ih]
        by_cases h2 : base ≤ j ∧ j < base + i ∧ ((j - base : Nat) : Int) < pk
        · rw [if_pos h2, if_pos ⟨h2.1, by omega, h2.2.2⟩]
        · rw [if_neg h2, if_neg (by omega)]
    · rw [if_neg hp, ih]
      by_cases h2 : base ≤ j ∧ j < base + i ∧ ((j - base : Nat) : Int) < pk
      · rw [if_pos h2, if_pos ⟨h2.1, by omega, h2.2.2⟩]
      · rw [if_neg h2, if_neg (by omega)]

/-- behind a crash each byte is what stood, or what was written last -/
theorem crsN_or (st nw : List Nat) (di : List Bool) (picks : List Int) (b : Nat) (hb : 64 * b ≤ st.length) (j : Nat) : (crsN st nw di picks b).1.getD j 0 = st.getD j 0 ∨ (crsN st nw di picks b).1.getD j 0 = nw.getD j 0 := by
  induction b with
  | zero => exact Or.inl rfl
  | succ b ih =>
    have ih := ih (by omega)
    simp only [crsN]
    split
    · simp only
      rw [pkN_get _ _ _ _ _ (by rw [crsN_len]; omega)]
      split
      · exact Or.inr rfl
      · exact ih
    · exact ih

/-- where all picks are 64 -/
theorem crsN_full (st nw : List Nat) (di : List Bool) (picks : List Int) (b : Nat) (hb : 64 * b ≤ st.length) (hp : ∀ k, k < b → 64 ≤ picks.getD k 0) (j : Nat) :
    (crsN st nw di picks b).1.getD j 0 = if j < 64 * b ∧ di.getD (j / 64) false = true then nw.getD j 0 else st.getD j 0 := by
  induction b with
  | zero => rw [if_neg (by omega)]; rfl
  | succ b ih =>
    have ih := ih (by omega) (fun k hk => hp k (by omega))
    have hk := crsN_le st nw di picks b
    simp only [crsN]
    by_cases hd : di.getD b false = true
    · rw [if_pos hd]
      simp only
      rw [pkN_get _ _ _ _ _ (by rw [crsN_len]; omega), ih]
      have h64 := hp _ (show (crsN st nw di picks b).2 < b + 1 by omega)
      by_cases h : 64 * b ≤ j ∧ j < 64 * b + 64
      · have hj : j / 64 = b := by omega
        rw [if_pos ⟨h.1, h.2, by omega⟩, if_pos ⟨by omega, by rw [hj]; exact hd⟩]
      · rw [if_neg (by omega)]
        by_cases h2 : j < 64 * b ∧ di.getD (j / 64) false = true
        · rw [if_pos h2, if_pos ⟨by omega, h2.2⟩]
        · rw [if_neg h2, if_neg]
          rintro ⟨h3, h4⟩
          exact h2 ⟨by omega, h4⟩
    · rw [if_neg hd, ih]
      by_cases h2 : j < 64 * b ∧ di.getD (j / 64) false = true
      · rw [if_pos h2, if_pos ⟨by omega, h2.2⟩]
      · rw [if_neg h2, if_neg]
        rintro ⟨h3, h4⟩
        refine h2 ⟨?_, h4⟩
        rcases Nat.lt_or_ge j (64 * b) with h5 | h5
        · exact h5
        · exact absurd (by rw [show j / 64 = b by omega] at h4; exact h4) hd

theorem elem_getD {l : List Nat} {i : Nat} (h : i < l.length) : l[i] = l.getD i 0 := by simp [List.getD_eq_getElem?_getD, h]

theorem slice_get (l : List Nat) (p m j : Nat) (hj : j < m) : ((l.drop p).take m).getD j 0 = l.getD (p + j) 0 := by
  simp only [List.getD_eq_getElem?_getD, List.getElem?_take, List.getElem?_drop, if_pos hj]

/-- what was synced is there behind every crash, where nothing else was written -/
theorem keeps_one {s : Dsk} (hs : s.ok) (p : Nat) (a : List Nat) (o : Nat) (b : List Nat) (picks : List Int) (hp : p + a.length ≤ 64 * s.di.length) (ho : o + b.length ≤ 64 * s.di.length) (i : Nat) (hi : i < a.length) :
    ((((((s.write p a).sync).write o b).crash picks).nw.drop p).take a.length).getD i 0 = a.getD i 0 ∨
      (o ≤ p + i ∧ p + i < o + b.length ∧ ((((((s.write p a).sync).write o b).crash picks).nw.drop p).take a.length).getD i 0 = b.getD (p + i - o) 0) := by
  obtain ⟨h1, h2, h3⟩ := hs
  rw [slice_get _ _ _ _ hi]
  simp only [Dsk.crash, Dsk.write, Dsk.sync]
  rcases crsN_or (putN s.nw p a a.length) (putN (putN s.nw p a a.length) o b b.length) (dirN (List.replicate (dirN s.di p a.length).length false) o b.length) picks (dirN (List.replicate (dirN s.di p a.length).length false) o b.length).length (by simp only [dirN_len, putN_len, List.length_replicate]; omega) (p + i) with h | h
  · rw [h, putN_get _ _ _ _ (by omega), if_pos ⟨by omega, by omega⟩, Nat.add_sub_cancel_left]
    exact Or.inl rfl
  · rw [h, putN_get _ _ _ _ (by rw [putN_len]; omega)]
    by_cases hin : o ≤ p + i ∧ p + i < o + b.length
    · rw [if_pos hin]; exact Or.inr ⟨hin.1, hin.2, rfl⟩
    · rw [if_neg hin, putN_get _ _ _ _ (by omega), if_pos ⟨by omega, by omega⟩, Nat.add_sub_cancel_left]
      exact Or.inl rfl

/-- a crash of all picks of 64 is a sync -/
theorem keeps_two {s : Dsk} (hs : s.ok) (hst : s.st = s.nw) (o : Nat) (b : List Nat) (picks : List Int) (ho : o + b.length ≤ 64 * s.di.length) (hpk : ∀ k, k < s.di.length → 64 ≤ picks.getD k 0) :
    (((s.write o b).crash picks).nw.drop o).take b.length = b := by
  obtain ⟨h1, h2, h3⟩ := hs
  have hl : (((s.write o b).crash picks).nw).length = 64 * s.di.length := by simp only [Dsk.crash, Dsk.write, crsN_len]; exact h1
  refine List.ext_getElem (by rw [List.length_take, List.length_drop, hl]; omega) fun i hi1 hi2 => ?_
  have hg := slice_get ((s.write o b).crash picks).nw o b.length i hi2
  rw [elem_getD hi1, elem_getD hi2, hg]
  simp only [Dsk.crash, Dsk.write]
  rw [crsN_full _ _ _ _ _ (by simp only [dirN_len]; omega) (fun k hk => hpk k (by rw [dirN_len] at hk; exact hk))]
  rw [if_pos]
  · rw [putN_get _ _ _ _ (by omega), if_pos ⟨by omega, by omega⟩, Nat.add_sub_cancel_left]
  · refine ⟨by rw [dirN_len]; omega, ?_⟩
    rw [dirN_get _ _ _ (by omega)]
    exact Or.inr ⟨o + i, by omega, by omega, rfl⟩
end Go.Proofs.Ytehfbafocbcfnaa
