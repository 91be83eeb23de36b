/- Plain facts of names of accounts: strings as lists of bytes, digits, names. -/
import Derived.WalkKit
import Derived.ProofKit
namespace Go.Proofs.YtcdkgfjjgebcnaaDoor
open Go
set_option linter.unusedVariables false

/-- a list of bytes as a string -/
def strL (l : List UInt8) : ByteArray := ⟨l.toArray⟩
theorem strL_toList (l : List UInt8) : (strL l).toList = l := by rw [ByteArray.toList_eq]; simp [strL]
theorem strL_size (l : List UInt8) : (strL l).size = l.length := by simp [strL, ByteArray.size]
theorem strL_of (s : ByteArray) : strL s.toList = s := by rw [ByteArray.toList_eq]; cases s; simp [strL]
theorem strL_inj {l r : List UInt8} (h : strL l = strL r) : l = r := by rw [← strL_toList l, h, strL_toList]
theorem strL_append (l r : List UInt8) : strL l ++ strL r = strL (l ++ r) := by
  apply ByteArray.ext
  simp [strL, ByteArray.data_append]

/-- the digits of a number from 1 on; of 0 none -/
def decL (n : Nat) : List UInt8 := if h : n = 0 then [] else decL (n / 10) ++ [UInt8.ofNat (48 + n % 10)]
termination_by n
decreasing_by omega
theorem decL_zero : decL 0 = [] := by rw [decL]; simp
theorem decL_pos {n : Nat} (h : n ≠ 0) : decL n = decL (n / 10) ++ [UInt8.ofNat (48 + n % 10)] := by rw [decL]; simp [h]
/-- the number of digits -/
def numL (l : List UInt8) : Nat := l.foldl (fun n c => n * 10 + (c.toNat - 48)) 0
theorem numL_snoc (l : List UInt8) (c : UInt8) : numL (l ++ [c]) = numL l * 10 + (c.toNat - 48) := by simp [numL, List.foldl_append]
theorem numL_decL : ∀ n : Nat, numL (decL n) = n := fun n => by
  induction n using Nat.strongRecOn with
  | ind n ih =>
    by_cases h : n = 0
    · subst h; rw [decL_zero]; rfl
    · rw [decL_pos h, numL_snoc, ih (n / 10) (by omega)]
      have : (UInt8.ofNat (48 + n % 10)).toNat = 48 + n % 10 := by simp; omega
      omega
theorem decL_inj {m n : Nat} (h : decL m = decL n) : m = n := by rw [← numL_decL m, h, numL_decL]
theorem decL_digit : ∀ (n : Nat) (c : UInt8), c ∈ decL n → 48 ≤ c.toNat ∧ c.toNat ≤ 57 := fun n => by
  induction n using Nat.strongRecOn with
  | ind n ih =>
    intro c hc
    by_cases h : n = 0
    · subst h; rw [decL_zero] at hc; cases hc
    · rw [decL_pos h] at hc
      rcases List.mem_append.1 hc with hc | hc
      · exact ih (n / 10) (by omega) c hc
      · simp only [List.mem_singleton] at hc
        subst hc
        have : (UInt8.ofNat (48 + n % 10)).toNat = 48 + n % 10 := by simp; omega
        omega
theorem decL_len : ∀ (j n : Nat), n < 10 ^ j → (decL n).length ≤ j := fun j => by
  induction j with
  | zero => intro n h; obtain rfl : n = 0 := by simpa using h
            rw [decL_zero]; simp
  | succ j ih =>
    intro n h
    by_cases h0 : n = 0
    · subst h0; rw [decL_zero]; simp
    · rw [decL_pos h0, List.length_append, List.length_singleton]
      have := ih (n / 10) (by rw [Nat.div_lt_iff_lt_mul (by omega)]; rw [Nat.pow_succ] at h; omega)
      omega
theorem decL_ne {n : Nat} (h : n ≠ 0) : 0 < (decL n).length := by rw [decL_pos h]; simp

/-- the kinds' names, from 1 on -/
def nams : List (List UInt8) := [[99, 97, 115, 104], [116, 114, 117, 115, 116], [111, 119, 110], [105, 110, 118, 101, 115, 116, 111, 114], [101, 115, 99, 114, 111, 119], [115, 117, 115, 112, 101, 110, 115, 101], [97, 100, 118, 97, 110, 99, 101], [102, 101, 101], [103, 117, 97, 114, 97, 110, 116, 121], [108, 97, 116, 101], [112, 114, 105, 110, 99, 105, 112, 97, 108], [108, 111, 97, 110]]
def nam (k : Nat) : List UInt8 := nams.getD (k - 1) []
/-- an account's name -/
def nameL (k o : Nat) : List UInt8 := nam k ++ (if o = 0 then [] else 46 :: decL o)
/-- is there that account? -/
def MayK (k o : Int) : Prop := (1 ≤ k ∧ k ≤ 3 ∧ o = 0) ∨ (4 ≤ k ∧ k ≤ 12 ∧ 1 ≤ o ∧ o ≤ 65536)
instance (k o : Int) : Decidable (MayK k o) := by unfold MayK; infer_instance
def DebitK (k o : Int) : Prop := MayK k o ∧ (k ≤ 3 ∨ k = 7 ∨ k = 12)
instance (k o : Int) : Decidable (DebitK k o) := by unfold DebitK; infer_instance
def LessK (k o k' o' : Int) : Prop := k < k' ∨ (k = k' ∧ o < o')
instance (k o k' o' : Int) : Decidable (LessK k o k' o') := by unfold LessK; infer_instance

theorem nam_nodot : ∀ k : Fin 13, ∀ c ∈ nam k.1, (c != 46) = true := by decide +kernel
theorem nam_inj : ∀ k k' : Fin 13, 1 ≤ k.1 → 1 ≤ k'.1 → nam k.1 = nam k'.1 → k = k' := by decide +kernel
theorem nam_len : ∀ k : Fin 13, 1 ≤ k.1 → 3 ≤ (nam k.1).length ∧ (nam k.1).length ≤ 9 := by decide +kernel
theorem nameL_head {k : Nat} (hk : k ≤ 12) (o : Nat) : (nameL k o).takeWhile (· != 46) = nam k := by
  have h := nam_nodot ⟨k, by omega⟩
  have ha : ∀ c ∈ nam k, (c != 46) = true := h
  unfold nameL
  rw [List.takeWhile_append_of_pos ha]
  by_cases ho : o = 0
  · simp [ho]
  · simp [ho]
theorem nameL_inj {k o k' o' : Nat} (h : MayK k o) (h' : MayK k' o') (e : nameL k o = nameL k' o') : k = k' ∧ o = o' := by
  unfold MayK at h h'
  have hk : k ≤ 12 ∧ 1 ≤ k := by omega
  have hk' : k' ≤ 12 ∧ 1 ≤ k' := by omega
  have e1 : nam k = nam k' := by rw [← nameL_head hk.1 o, e, nameL_head hk'.1 o']
  have e2 : k = k' := by
    have := nam_inj ⟨k, by omega⟩ ⟨k', by omega⟩ hk.2 hk'.2 e1
    simpa using this
  subst e2
  refine ⟨rfl, ?_⟩
  unfold nameL at e
  rw [List.append_cancel_left_eq] at e
  by_cases ho : o = 0
  · by_cases ho' : o' = 0
    · omega
    · simp [ho, ho'] at e
  · by_cases ho' : o' = 0
    · simp [ho, ho'] at e
    · simp only [ho, ho', if_false, List.cons.injEq, true_and] at e
      exact decL_inj e
end Go.Proofs.YtcdkgfjjgebcnaaDoor
