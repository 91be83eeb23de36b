/- Plain facts of names: what is none's name, and whose it is. -/
import Derived.Test.YtkiehlkmbkgenaaDoorChartNum
namespace Go.Proofs.YtkiehlkmbkgenaaDoor
open Go
set_option linter.unusedVariables false

/-- no account of this kind has that name -/
def NoKind (L : List UInt8) (k : Nat) : Prop := ∀ o : Nat, MayK k o → L ≠ nameL k o
/-- no account has it -/
def NoName (L : List UInt8) : Prop := ∀ k o : Nat, MayK k o → L ≠ nameL k o

theorem noKind_zero (L : List UInt8) : NoKind L 0 := fun o h => by unfold MayK at h; omega
theorem noName_of {L : List UInt8} (h : ∀ k, k ≤ 12 → NoKind L k) : NoName L := fun k o hm => h k (by unfold MayK at hm; omega) o hm
theorem nameL_low {k o : Nat} (h : MayK k o) (hk : k ≤ 3) : o = 0 ∧ nameL k o = nam k := by
  have : o = 0 := by unfold MayK at h; omega
  subst this
  exact ⟨rfl, by simp [nameL]⟩
theorem noKind_low {L : List UInt8} {k : Nat} (hk : k ≤ 3) (h : L ≠ nam k) : NoKind L k := fun o hm => by rw [(nameL_low hm hk).2]; exact h
theorem nameL_high {k o : Nat} (h : MayK k o) (hk : 4 ≤ k) : nameL k o = nam k ++ 46 :: decL o ∧ 1 ≤ (decL o).length ∧ (decL o).length ≤ 5 ∧ o ≠ 0 := by
  have ho : o ≠ 0 ∧ o ≤ 65536 := by unfold MayK at h; omega
  exact ⟨by simp [nameL, ho.1], decL_ne ho.1, decL_len 5 o (by omega), ho.1⟩
theorem noKind_len {L : List UInt8} {k : Nat} (hk : 4 ≤ k) (h : L.length ≤ (nam k).length + 1 ∨ (nam k).length + 6 < L.length) : NoKind L k := fun o hm e => by
  obtain ⟨h1, h2, h3, _⟩ := nameL_high hm hk
  rw [h1] at e
  have := congrArg List.length e
  rw [List.length_append, List.length_cons] at this
  omega
theorem noKind_head {L : List UInt8} {k : Nat} (hk : 4 ≤ k) (h : L.take (nam k).length ≠ nam k) : NoKind L k := fun o hm e => by
  rw [(nameL_high hm hk).1] at e
  rw [e] at h
  simp at h
theorem noKind_dot {L : List UInt8} {k : Nat} (hk : 4 ≤ k) (h : L.getD (nam k).length 0 ≠ 46) : NoKind L k := fun o hm e => by
  rw [(nameL_high hm hk).1] at e
  rw [e] at h
  simp [List.getD] at h

/-- what begins as a kind's name and a dot -/
theorem name_split {L : List UInt8} {k : Nat} (hlen : (nam k).length < L.length) (h1 : L.take (nam k).length = nam k) (h2 : L.getD (nam k).length 0 = 46) : L = nam k ++ 46 :: L.drop ((nam k).length + 1) := by
  have := List.take_append_drop (nam k).length L
  rw [h1, List.drop_eq_getElem_cons hlen] at this
  have e : L[(nam k).length] = 46 := by simpa [List.getD, hlen] using h2
  rw [e] at this
  exact this.symm

theorem name_only {L t : List UInt8} {k : Nat} (hk : 4 ≤ k) (hk' : k ≤ 12) (h : L = nam k ++ 46 :: t) {k' o' : Nat} (hm : MayK k' o') (e : L = nameL k' o') : k' = k ∧ o' ≠ 0 ∧ decL o' = t := by
  have hk1 : k' ≤ 12 ∧ 1 ≤ k' := by unfold MayK at hm; omega
  have ha : ∀ c ∈ nam k, (c != 46) = true := nam_nodot ⟨k, by omega⟩
  have h1 : L.takeWhile (· != 46) = nam k := by
    rw [h, List.takeWhile_append_of_pos ha]
    simp
  rw [e, nameL_head hk1.1] at h1
  have e2 : k' = k := by
    have := nam_inj ⟨k', by omega⟩ ⟨k, by omega⟩ hk1.2 (by simp; omega) h1
    simpa using this
  subst e2
  obtain ⟨g1, _, _, g4⟩ := nameL_high hm hk
  rw [g1, h, List.append_cancel_left_eq] at e
  simp only [List.cons.injEq, true_and] at e
  exact ⟨rfl, g4, e.symm⟩

def Digs (t : List UInt8) : Prop := ∀ c ∈ t, 48 ≤ c.toNat ∧ c.toNat ≤ 57
theorem digs_snoc {t : List UInt8} {c : UInt8} (h : Digs t) (h1 : 48 ≤ c.toNat) (h2 : c.toNat ≤ 57) : Digs (t ++ [c]) := by
  intro x hx
  rcases List.mem_append.1 hx with hx | hx
  · exact h x hx
  · rw [List.mem_singleton.1 hx]; exact ⟨h1, h2⟩
theorem numL_lt {t : List UInt8} (h : Digs t) : numL t < 10 ^ t.length := by
  have key : ∀ n, ∀ t : List UInt8, t.length = n → Digs t → numL t < 10 ^ t.length := by
    intro n
    induction n with
    | zero => intro t ht _; rw [List.eq_nil_of_length_eq_zero ht]; simp [numL]
    | succ n ih =>
      intro t ht hd
      have hne : t ≠ [] := fun h => by rw [h] at ht; simp at ht
      have e := List.dropLast_concat_getLast hne
      have hl : t.dropLast.length = n := by rw [List.length_dropLast]; omega
      have h1 := ih t.dropLast hl (fun c hc => hd c (List.dropLast_subset _ hc))
      have h2 := hd (t.getLast hne) (List.getLast_mem hne)
      rw [← e, numL_snoc, List.length_append, List.length_singleton, Nat.pow_succ]
      omega
  exact key _ t rfl h

theorem noName_digit {L t : List UInt8} {k : Nat} (hk : 4 ≤ k) (hk' : k ≤ 12) (h : L = nam k ++ 46 :: t) {c : UInt8} (hc : c ∈ t) (hb : c.toNat < 48 ∨ 57 < c.toNat) : NoName L := fun k' o' hm e => by
  obtain ⟨_, _, h3⟩ := name_only hk hk' h hm e
  rw [← h3] at hc
  have := decL_digit o' c hc
  omega
theorem noName_may {L t : List UInt8} {k : Nat} (hk : 4 ≤ k) (hk' : k ≤ 12) (h : L = nam k ++ 46 :: t) (hm : ¬ MayK k (numL t)) : NoName L := fun k' o' hm' e => by
  obtain ⟨rfl, _, h3⟩ := name_only hk hk' h hm' e
  rw [← h3, numL_decL] at hm
  exact hm hm'
theorem noName_same {L t : List UInt8} {k : Nat} (hk : 4 ≤ k) (hk' : k ≤ 12) (h : L = nam k ++ 46 :: t) (hn : nameL k (numL t) ≠ L) : NoName L := fun k' o' hm' e => by
  obtain ⟨rfl, _, h3⟩ := name_only hk hk' h hm' e
  rw [← h3, numL_decL] at hn
  exact hn e.symm
/-- the byte at a place -/
theorem byt_strL {l : List UInt8} {i : Nat} (h : i < (strL l).size) : ((strL l)[i]'h) = l.getD i 0 := by
  have h' : i < l.length := by rwa [strL_size] at h
  show (strL l).data[i] = _
  simp [strL, List.getD, h']
theorem extract_strL (l : List UInt8) (n : Nat) : (strL l).extract 0 n = strL (l.take n) := by
  apply ByteArray.ext
  simp [strL, ByteArray.data_extract]
theorem strL_eq (l r : List UInt8) : ((strL l).toList == (strL r).toList) = decide (l = r) := by
  rw [strL_toList, strL_toList]
  by_cases h : l = r
  · simp [h]
  · simp [h]
end Go.Proofs.YtkiehlkmbkgenaaDoor
