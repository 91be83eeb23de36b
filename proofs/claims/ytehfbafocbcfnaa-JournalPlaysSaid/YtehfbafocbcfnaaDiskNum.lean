/- A disk by definition, as lists: plain. -/
namespace Go.Proofs.Ytehfbafocbcfnaa
set_option linter.unusedVariables false

/-- what is written, byte by byte, from place p on -/
def putN (nw : List Nat) (p : Nat) (bs : List Nat) : Nat → List Nat
  | 0 => nw
  | i + 1 => (putN nw p bs i).set (p + i) (bs.getD i 0)
/-- the blocks that are written -/
def dirN (di : List Bool) (p : Nat) : Nat → List Bool
  | 0 => di
  | i + 1 => (dirN di p i).set ((p + i) / 64) true
/-- a copied onto b's places -/
def cpyN (a b : List Nat) : Nat → List Nat
  | 0 => a
  | i + 1 => (cpyN a b i).set i (b.getD i 0)
def clrN (di : List Bool) : Nat → List Bool
  | 0 => di
  | i + 1 => (clrN di i).set i false
/-- of one block: what was written last, of a pick -/
def pkN (st nw : List Nat) (base : Nat) (pk : Int) : Nat → List Nat
  | 0 => st
  | i + 1 => if (i : Int) < pk then (pkN st nw base pk i).set (base + i) (nw.getD (base + i) 0) else pkN st nw base pk i
/-- of all blocks up to one: what stands then, and how many were written -/
def crsN (st nw : List Nat) (di : List Bool) (picks : List Int) : Nat → List Nat × Nat
  | 0 => (st, 0)
  | b + 1 => if di.getD b false = true then (pkN (crsN st nw di picks b).1 nw (64 * b) (picks.getD (crsN st nw di picks b).2 0) 64, (crsN st nw di picks b).2 + 1) else crsN st nw di picks b
def manyN (di : List Bool) : Nat → Nat
  | 0 => 0
  | i + 1 => if di.getD i false = true then manyN di i + 1 else manyN di i

theorem putN_len (nw : List Nat) (p : Nat) (bs : List Nat) (i : Nat) : (putN nw p bs i).length = nw.length := by
  induction i with
  | zero => rfl
  | succ i ih => simp [putN, ih]
theorem dirN_len (di : List Bool) (p i : Nat) : (dirN di p i).length = di.length := by
  induction i with
  | zero => rfl
  | succ i ih => simp [dirN, ih]
theorem cpyN_len (a b : List Nat) (i : Nat) : (cpyN a b i).length = a.length := by
  induction i with
  | zero => rfl
  | succ i ih => simp [cpyN, ih]
theorem clrN_len (di : List Bool) (i : Nat) : (clrN di i).length = di.length := by
  induction i with
  | zero => rfl
  | succ i ih => simp [clrN, ih]
theorem pkN_len (st nw : List Nat) (base : Nat) (pk : Int) (i : Nat) : (pkN st nw base pk i).length = st.length := by
  induction i with
  | zero => rfl
  | succ i ih => simp only [pkN]; split <;> simp [ih]
theorem crsN_len (st nw : List Nat) (di : List Bool) (picks : List Int) (b : Nat) : (crsN st nw di picks b).1.length = st.length := by
  induction b with
  | zero => rfl
  | succ b ih => simp only [crsN]; split <;> simp_all [pkN_len]
theorem crsN_le (st nw : List Nat) (di : List Bool) (picks : List Int) (b : Nat) : (crsN st nw di picks b).2 ≤ b := by
  induction b with
  | zero => simp [crsN]
  | succ b ih =>
    simp only [crsN]
    split
    · show _ + 1 ≤ _; omega
    · omega
theorem manyN_le (di : List Bool) (i : Nat) : manyN di i ≤ i := by
  induction i with
  | zero => simp [manyN]
  | succ i ih => simp only [manyN]; split <;> omega

theorem cpyN_get (a b : List Nat) (i : Nat) (hi : i ≤ a.length) (j : Nat) : (cpyN a b i).getD j 0 = if j < i then b.getD j 0 else a.getD j 0 := by
  induction i with
  | zero => simp [cpyN]
  | succ i ih =>
    have ih := ih (by omega)
    simp only [cpyN, List.getD_eq_getElem?_getD, List.getElem?_set] at ih ⊢
    rw [cpyN_len]
    by_cases hj : i = j
    · subst hj
      rw [if_pos rfl, if_pos (by omega), if_pos (by omega)]
      rfl
    · rw [if_neg hj, ih]
      by_cases h : j < i
      · rw [if_pos h, if_pos (by omega)]
      · rw [if_neg h, if_neg (by omega)]
theorem cpyN_all (a b : List Nat) (h : a.length = b.length) : cpyN a b a.length = b := by
  refine List.ext_getElem (by rw [cpyN_len]; exact h) fun j h1 h2 => ?_
  have := cpyN_get a b a.length (Nat.le_refl _) j
  rw [if_pos (by omega)] at this
  simpa [List.getD_eq_getElem?_getD, h1, h2] using this
theorem clrN_get (di : List Bool) (i : Nat) (hi : i ≤ di.length) (j : Nat) : (clrN di i).getD j false = if j < i then false else di.getD j false := by
  induction i with
  | zero => simp [clrN]
  | succ i ih =>
    have ih := ih (by omega)
    simp only [clrN, List.getD_eq_getElem?_getD, List.getElem?_set] at ih ⊢
    rw [clrN_len]
    by_cases hj : i = j
    · subst hj
      rw [if_pos rfl, if_pos (by omega), if_pos (by omega)]
      rfl
    · rw [if_neg hj, ih]
      by_cases h : j < i
      · rw [if_pos h, if_pos (by omega)]
      · rw [if_neg h, if_neg (by omega)]
theorem clrN_all (di : List Bool) : clrN di di.length = List.replicate di.length false := by
  refine List.ext_getElem (by rw [clrN_len, List.length_replicate]) fun j h1 h2 => ?_
  have := clrN_get di di.length (Nat.le_refl _) j
  rw [if_pos (by rw [clrN_len] at h1; exact h1)] at this
  rw [List.getElem_replicate]
  simpa [List.getD_eq_getElem?_getD, h1] using this

/-- what stands, what was written last, and the blocks that were written -/
structure Dsk where
  st : List Nat
  nw : List Nat
  di : List Bool
def Dsk.ok (s : Dsk) : Prop := s.st.length = 64 * s.di.length ∧ s.nw.length = 64 * s.di.length ∧ s.di.length ≤ 1024
def Dsk.zero (n : Nat) : Dsk := ⟨List.replicate (64 * n) 0, List.replicate (64 * n) 0, List.replicate n false⟩
def Dsk.write (s : Dsk) (p : Nat) (bs : List Nat) : Dsk := ⟨s.st, putN s.nw p bs bs.length, dirN s.di p bs.length⟩
def Dsk.sync (s : Dsk) : Dsk := ⟨s.nw, s.nw, List.replicate s.di.length false⟩
def Dsk.crash (s : Dsk) (picks : List Int) : Dsk :=
  ⟨(crsN s.st s.nw s.di picks s.di.length).1, (crsN s.st s.nw s.di picks s.di.length).1, List.replicate s.di.length false⟩
def Dsk.many (s : Dsk) : Nat := manyN s.di s.di.length

theorem Dsk.ok_zero {n : Nat} (h : n ≤ 1024) : (Dsk.zero n).ok := by simp [Dsk.ok, Dsk.zero, h]
theorem Dsk.ok_write {s : Dsk} (h : s.ok) (p : Nat) (bs : List Nat) : (s.write p bs).ok := by
  unfold Dsk.ok at *; simp only [Dsk.write, putN_len, dirN_len]; exact h
theorem Dsk.ok_sync {s : Dsk} (h : s.ok) : s.sync.ok := by
  unfold Dsk.ok at *; simp only [Dsk.sync, List.length_replicate]; exact ⟨h.2.1, h.2.1, h.2.2⟩
theorem Dsk.ok_crash {s : Dsk} (h : s.ok) (picks : List Int) : (s.crash picks).ok := by
  unfold Dsk.ok at *; simp only [Dsk.crash, crsN_len, List.length_replicate]; exact ⟨h.1, h.1, h.2.2⟩
end Go.Proofs.Ytehfbafocbcfnaa
