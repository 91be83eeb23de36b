/- Slices whose elements are of two cells each; an element appended to one of the call's own. -/
import Derived.Test.YtkmoibikempieaaNumVar
namespace Go.Proofs.Ytkmoibikempieaa
open Go Go.RowKit
set_option linter.unusedVariables false

/-- the cells of k elements -/
def pcells (c : Nat → Value × Value) : Nat → List Value
  | 0 => []
  | k + 1 => pcells c k ++ [(c k).1, (c k).2]

theorem pcells_len (c : Nat → Value × Value) (k : Nat) : (pcells c k).length = k * 2 := by
  induction k with
  | zero => rfl
  | succ k ih => simp only [pcells, List.length_append, ih, List.length_cons, List.length_nil]; omega

theorem pcells_get (c : Nat → Value × Value) {k j : Nat} (h : j < k) : (pcells c k)[j * 2]? = some (c j).1 ∧ (pcells c k)[j * 2 + 1]? = some (c j).2 := by
  induction k with
  | zero => omega
  | succ k ih =>
    simp only [pcells]
    by_cases e : j = k
    · subst e
      rw [List.getElem?_append_right (by rw [pcells_len]; omega), List.getElem?_append_right (by rw [pcells_len]; omega), pcells_len]
      simp
    · have h1 : j < k := by omega
      rw [List.getElem?_append_left (by rw [pcells_len]; omega), List.getElem?_append_left (by rw [pcells_len]; omega)]
      exact ih h1

theorem pcells_eq {c d : Nat → Value × Value} {k : Nat} (h : ∀ j, j < k → c j = d j) : pcells c k = pcells d k := by
  induction k with
  | zero => rfl
  | succ k ih => simp only [pcells]; rw [ih (fun j hj => h j (by omega)), h k (by omega)]

/-- one more -/
def pput (c : Nat → Value × Value) (k : Nat) (x : Value × Value) (j : Nat) : Value × Value := if j = k then x else c j
theorem pput_snoc (c : Nat → Value × Value) (k : Nat) (x : Value × Value) : pcells (pput c k x) (k + 1) = pcells c k ++ [x.1, x.2] := by
  simp only [pcells]
  rw [pcells_eq (d := c) (fun j hj => by unfold pput; rw [if_neg (by omega)])]
  simp [pput]

theorem info_num : (Try.prog.info? 36).map (fun i => (i.zero, i.size, i.bytes)) = some (some (.agg #[.slice none 0 0, .bool false]), 2, 32) := by kernel_rfl

section
variable {w : World} {ops : Array Oper} {o : Oper} {a : Act} {K : Act → World → Prop} {Q : Exit → Act → World → Prop} {E : Prop}
/-- at a step of a region that draws its order -/
theorem step_append_num (hgd : o.guard = none) (s x : Operand)
    (ho : o.op = .call { callee := .builtin .append, args := #[s, x], argTypes := #[50, 50] })
    (base : Nat) (v : Value) (n : Nat) (xs : List Value) (hs : a.eval s = v) (hown : w.ownsRow base 36 2 v n xs)
    (ad : Addr) (c : Nat) (y z : Value) (hx : a.eval x = .slice (some ad) 1 c) (h0 : w.cell? (ad.add 0) = some y) (h0' : w.cell? (ad.add 1) = some z) (h1 : y.oneCell' = true) (h1' : z.oneCell' = true)
    (hn : n ≤ 1000000) (hbase : base ≤ w.heap.size)
    (h : ∀ v' w', w'.ownsRow base 36 2 v' (n + 1) (xs ++ [y, z]) → w.grownBy w' v.ownBlock → (v' = .slice none 0 0 ↔ v = .slice none 0 0 ∧ 1 = 0) → (v'.ownBlock = v.ownBlock ∨ v'.ownBlock = some w.heap.size) → K (a.put o.dst v') w') :
    if Region.wanted o (yielded ops a.tmps) = true then Oper.wp Try.prog o a w K Q else E := by
  have hw : Region.wanted o (yielded ops a.tmps) = true := by simp [Region.wanted, hgd]
  rw [if_pos hw]
  obtain ⟨i, hi, a1, a2, a3⟩ := info_parts info_num
  obtain ⟨v', w', hr, h2, h3, h4, h5⟩ := run_append_own_at w base 50 o.type 36 i (.agg #[.slice none 0 0, .bool false]) 2 32 Try.underlying50 hi a1 a2 a3 rfl (by decide) v n xs hown ad 1 c [y, z] rfl
    (fun j u hj => by
      match j, hj with
      | 0, hj => simp at hj; rw [← hj]; exact h0
      | 1, hj => simp at hj; rw [← hj]; exact h0'
      | j + 2, hj => simp at hj)
    (fun u hu => by
      simp only [List.mem_cons, List.not_mem_nil, or_false] at hu
      rcases hu with rfl | rfl
      · exact h1
      · exact h1')
    (by show n + 1 ≤ maxLen; simp only [maxLen]; omega) (by omega) hbase
  unfold Oper.wp execOp
  simp only [ho, resolve, invoke, builtin, Sem.run_bind, Sem.run_pure, Result.andThen_ok, List.map_toArray, List.map_cons, List.map_nil, hs, hx, hr]
  exact h v' w' h2 h3 h4 h5
end
end Go.Proofs.Ytkmoibikempieaa
