/- Plain facts of names as package chart makes and reads them: cut at the dot, digits. -/
import Derived.Test.YtcdkgfjjgebcnaaDoorChartNum
import Derived.Lib.AtoiAll
import Derived.Lib.IndexMore
import Derived.Lib.ItoaNum
namespace Go.Proofs.YtcdkgfjjgebcnaaDoor
open Go
set_option linter.unusedVariables false

theorem index_dot : ∀ (l t : List UInt8), (∀ c ∈ l, (c != 46) = true) → Lib.index (l ++ 46 :: t) [46] = l.length
  | [], t, _ => by simp [Lib.index]
  | c :: l, t, h => by
    have h1 := index_dot l t (fun x hx => h x (List.mem_cons_of_mem _ hx))
    have hc := h c (List.mem_cons_self ..)
    have hc' : ¬ 46 = c := fun e => by rw [← e] at hc; simp at hc
    rw [List.cons_append, Lib.index, h1]
    have e1 : ([46] : List UInt8).isPrefixOf (c :: (l ++ 46 :: t)) = false := by simp [List.isPrefixOf]; exact hc'
    rw [e1]
    have e2 : ((l.length : Int) == -1) = false := by simp
    simp [e2]
theorem index_nodot : ∀ (l : List UInt8), (∀ c ∈ l, (c != 46) = true) → Lib.index l [46] = -1
  | [], _ => by simp [Lib.index]
  | c :: l, h => by
    have h1 := index_nodot l (fun x hx => h x (List.mem_cons_of_mem _ hx))
    have hc := h c (List.mem_cons_self ..)
    have hc' : ¬ 46 = c := fun e => by rw [← e] at hc; simp at hc
    rw [Lib.index, h1]
    have e1 : ([46] : List UInt8).isPrefixOf (c :: l) = false := by simp [List.isPrefixOf]; exact hc'
    rw [e1]
    simp
theorem cut_low {k o : Nat} (h : MayK k o) (ho : o = 0) : Lib.cut (nameL k o) [46] = (nam k, [], false) := by
  subst ho
  have hk : k < 13 := by unfold MayK at h; omega
  have e : nameL k 0 = nam k := by simp [nameL]
  rw [e, Lib.cut, index_nodot _ (nam_nodot ⟨k, hk⟩)]
  simp
theorem cut_high {k o : Nat} (h : MayK k o) (ho : o ≠ 0) : Lib.cut (nameL k o) [46] = (nam k, decL o, true) := by
  have hk : k < 13 := by unfold MayK at h; omega
  have e : nameL k o = nam k ++ 46 :: decL o := by simp [nameL, ho]
  rw [e, Lib.cut, index_dot _ _ (nam_nodot ⟨k, hk⟩)]
  simp

theorem parse_fold : ∀ (l : List UInt8) (acc a : Nat), (∀ c ∈ l, 48 ≤ c.toNat ∧ c.toNat ≤ 57) → acc < 10 ^ a → a + l.length ≤ 18 → Lib.parseUint10 acc l = .ok (l.foldl (fun n c => n * 10 + (c.toNat - 48)) acc)
  | [], _, _, _, _, _ => rfl
  | c :: r, acc, a, h, ha, hl => by
    have hc := h c (List.mem_cons_self ..)
    rw [List.length_cons] at hl
    have h10 : (10 : Nat) ^ a ≤ 10 ^ 17 := Nat.pow_le_pow_right (by omega) (by omega)
    have e1 : ¬ 1844674407370955162 ≤ acc := by omega
    have e2 : ¬ 18446744073709551616 ≤ acc * 10 + (c.toNat - 48) := by omega
    rw [Lib.parseUint10, if_pos hc, if_neg e1, if_neg e2, List.foldl_cons]
    exact parse_fold r _ (a + 1) (fun x hx => h x (List.mem_cons_of_mem _ hx)) (by rw [Nat.pow_succ]; omega) (by omega)
theorem atoi_dec {o : Nat} (h : o ≠ 0) (h5 : o ≤ 65536) : Lib.atoiAll (decL o) = .ok (o : Int) := by
  have hd := decL_digit o
  have hp : Lib.parseUint10 0 (decL o) = .ok o := by
    have := parse_fold (decL o) 0 0 hd (by omega) (by have := decL_len 5 o (by omega); omega)
    rw [this]
    exact congrArg _ (numL_decL o)
  have hne := decL_ne h
  obtain ⟨c, r, e⟩ : ∃ c r, decL o = c :: r := by
    cases hl : decL o with
    | nil => rw [hl] at hne; simp at hne
    | cons c r => exact ⟨c, r, rfl⟩
  rw [e] at hp hd ⊢
  have hc := hd c (List.mem_cons_self ..)
  have e1 : ¬ (c.toNat = 43 ∨ c.toNat = 45) := by omega
  have e2 : ¬ c.toNat = 45 := by omega
  simp only [Lib.atoiAll, if_neg e1, Lib.parseMag, List.cons_ne_nil, if_false, hp]
  rw [if_neg (by omega), if_neg (by omega), if_neg e2]
theorem itoa_dec : ∀ (o : Nat), o ≠ 0 → Lib.decDigits o = decL o := fun o => by
  induction o using Nat.strongRecOn with
  | ind o ih =>
    intro h
    rw [Lib.decDigits, decL_pos h]
    by_cases h9 : o < 10
    · rw [dif_pos h9, show o / 10 = 0 by omega, decL_zero, show o % 10 = o by omega]; rfl
    · rw [dif_neg h9, ih (o / 10) (by omega) (by omega)]
theorem itoa_of {o : Nat} (h : o ≠ 0) : (⟨(Lib.itoa (o : Int)).toArray⟩ : ByteArray) = strL (decL o) := by
  unfold Lib.itoa
  rw [if_neg (by omega), Int.toNat_natCast, itoa_dec o h]
  rfl
end Go.Proofs.YtcdkgfjjgebcnaaDoor
