/- Long numbers, plainly: lists of digits to the base of 2 to 16, the lowest first. No program in sight. -/
import Derived.WalkKit
namespace Go.Proofs.YtcdkgfjjgebcnaaDoor
open Go
set_option linter.unusedVariables false

/-- what digits are worth -/
def val : List Nat → Nat
  | [] => 0
  | d :: r => d + 65536 * val r

def Digits (l : List Nat) : Prop := ∀ d ∈ l, d < 65536
/-- without zeros on top -/
def Canon (l : List Nat) : Prop := Digits l ∧ ∀ h : l ≠ [], l.getLast h ≠ 0

theorem val_append (l r : List Nat) : val (l ++ r) = val l + 65536 ^ l.length * val r := by
  induction l with
  | nil => simp [val]
  | cons d l ih =>
    simp only [List.cons_append, val, ih, List.length_cons, Nat.pow_succ]
    rw [Nat.mul_add, Nat.add_assoc, Nat.mul_comm (65536 ^ l.length) 65536, Nat.mul_assoc]

theorem val_snoc (l : List Nat) (d : Nat) : val (l ++ [d]) = val l + d * 65536 ^ l.length := by
  rw [val_append]; simp [val, Nat.mul_comm]

theorem val_take (l : List Nat) (k : Nat) : val (l.take (k + 1)) = val (l.take k) + l.getD k 0 * 65536 ^ k := by
  by_cases h : k < l.length
  · rw [List.take_add_one, List.getElem?_eq_getElem h]
    have hl : (l.take k).length = k := by rw [List.length_take]; omega
    simp only [Option.toList]
    rw [val_snoc, hl]
    simp [List.getD, h]
  · have h1 : l.length ≤ k := by omega
    rw [List.take_of_length_le (by omega), List.take_of_length_le h1]
    simp [List.getD, List.getElem?_eq_none h1]

theorem val_lt (l : List Nat) (h : Digits l) : val l < 65536 ^ l.length := by
  induction l with
  | nil => simp [val]
  | cons d l ih =>
    have h1 := h d (by simp)
    have h2 := ih (fun x hx => h x (by simp [hx]))
    simp only [val, List.length_cons, Nat.pow_succ]
    generalize 65536 ^ l.length = p at *
    omega

theorem Digits.take {l : List Nat} (h : Digits l) (k : Nat) : Digits (l.take k) := fun d hd => h d (List.mem_of_mem_take hd)
theorem Digits.snoc {l : List Nat} (h : Digits l) {d : Nat} (hd : d < 65536) : Digits (l ++ [d]) := fun x hx => by
  rcases List.mem_append.1 hx with h1 | h1
  · exact h x h1
  · rw [List.mem_singleton.1 h1]; exact hd
theorem Digits.get {l : List Nat} (h : Digits l) (k : Nat) : l.getD k 0 < 65536 := by
  by_cases hk : k < l.length
  · have : l.getD k 0 = l[k] := by simp [List.getD, hk]
    rw [this]; exact h _ (List.getElem_mem _)
  · have : l.getD k 0 = 0 := by simp [List.getD, List.getElem?_eq_none (show l.length ≤ k by omega)]
    omega
theorem digits_nil : Digits [] := fun d hd => by simp at hd
theorem canon_nil : Canon [] := ⟨digits_nil, fun h => absurd rfl h⟩

/-- without a 0 on top a number's size tells its length -/
theorem canon_ge {l : List Nat} (h : Canon l) (hn : 0 < l.length) : 65536 ^ (l.length - 1) ≤ val l := by
  have hne : l ≠ [] := by intro e; subst e; simp at hn
  have hl := h.2 hne
  have e : l = l.take (l.length - 1) ++ [l.getLast hne] := by
    rw [← List.dropLast_eq_take, List.dropLast_concat_getLast]
  have hv : val l = val (l.take (l.length - 1)) + l.getLast hne * 65536 ^ (l.length - 1) := by
    have hlen : (l.take (l.length - 1)).length = l.length - 1 := by rw [List.length_take]; omega
    have h2 := val_snoc (l.take (l.length - 1)) (l.getLast hne)
    rw [← e, hlen] at h2
    exact h2
  rw [hv]
  have h1 : 1 ≤ l.getLast hne := by omega
  have h2 := Nat.mul_le_mul_right (65536 ^ (l.length - 1)) h1
  omega

theorem canon_len {l : List Nat} (h : Canon l) {k : Nat} (hv : val l < 65536 ^ k) : l.length ≤ k := by
  refine Nat.le_of_not_lt fun hlt => ?_
  have h1 := canon_ge h (by omega)
  have h2 : 65536 ^ k ≤ 65536 ^ (l.length - 1) := Nat.pow_le_pow_right (by omega) (by omega)
  omega

theorem canon_zero {l : List Nat} (h : Canon l) (hv : val l = 0) : l = [] := by
  have := canon_len h (k := 0) (by rw [hv]; simp)
  exact List.eq_nil_of_length_eq_zero (by omega)

theorem canon_eq {l r : List Nat} (hl : Digits l) (hr : Digits r) (hn : l.length = r.length) (hv : val l = val r) : l = r := by
  induction l generalizing r with
  | nil => exact (List.eq_nil_of_length_eq_zero hn.symm).symm
  | cons d l ih =>
    cases r with
    | nil => simp at hn
    | cons e r =>
      have h1 := hl d (by simp)
      have h2 := hr e (by simp)
      simp only [val] at hv
      have h3 : d = e := by omega
      have h4 : val l = val r := by omega
      rw [h3, ih (fun x hx => hl x (by simp [hx])) (fun x hx => hr x (by simp [hx])) (by simpa using hn) h4]

/-! ### a sum's digit, a difference's digit, a product's digit -/

theorem plus_step {out a b : List Nat} {i c P : Nat} (hP : P = 65536 ^ i) (hlen : out.length = i) (h : val out + c * P = val (a.take i) + val (b.take i)) :
    val (out ++ [(a.getD i 0 + b.getD i 0 + c) % 65536]) + (a.getD i 0 + b.getD i 0 + c) / 65536 * (65536 ^ (i + 1)) = val (a.take (i + 1)) + val (b.take (i + 1)) := by
  rw [val_snoc, val_take, val_take, hlen, Nat.pow_succ, ← hP]
  generalize a.getD i 0 = x at *
  generalize b.getD i 0 = y at *
  have e : (x + y + c) % 65536 * P + (x + y + c) / 65536 * (P * 65536) = x * P + y * P + c * P := by
    rw [Nat.mul_comm P 65536, ← Nat.mul_assoc, ← Nat.add_mul, ← Nat.add_mul, ← Nat.add_mul]
    congr 1
    omega
  generalize (x + y + c) % 65536 * P = u at *
  generalize (x + y + c) / 65536 * (P * 65536) = v at *
  omega

theorem minus_step {out a b : List Nat} {i c P x y : Nat} (hP : P = 65536 ^ i) (hx : a.getD i 0 = x) (hy : b.getD i 0 = y) (hx' : x < 65536) (hy' : y < 65536) (hc : c ≤ 1) (hlen : out.length = i)
    (h : val (a.take i) + c * P = val out + val (b.take i)) :
    val (a.take (i + 1)) + (1 - (65536 + x - y - c) / 65536) * 65536 ^ (i + 1) = val (out ++ [(65536 + x - y - c) % 65536]) + val (b.take (i + 1)) := by
  rw [val_snoc, val_take, val_take, hlen, Nat.pow_succ, ← hP, hx, hy]
  have e : x * P + (1 - (65536 + x - y - c) / 65536) * (P * 65536) = (65536 + x - y - c) % 65536 * P + y * P + c * P := by
    rw [Nat.mul_comm P 65536, ← Nat.mul_assoc, ← Nat.add_mul, ← Nat.add_mul, ← Nat.add_mul]
    congr 1
    omega
  generalize (65536 + x - y - c) % 65536 * P = u at *
  generalize (1 - (65536 + x - y - c) / 65536) * (P * 65536) = v at *
  omega

theorem minus_end {out a b : List Nat} {c : Nat} (ho : Digits out) (hlen : out.length = a.length) (hb : b.length ≤ a.length)
    (h : val (a.take a.length) + c * 65536 ^ a.length = val out + val (b.take a.length)) (hle : val b ≤ val a) : val out + val b = val a := by
  rw [List.take_of_length_le (Nat.le_refl _), List.take_of_length_le hb] at h
  have h1 := val_lt out ho
  rw [hlen] at h1
  cases c with
  | zero => omega
  | succ c =>
    rw [Nat.add_mul] at h
    generalize 65536 ^ a.length = p at *
    generalize c * p = q at *
    omega

theorem mul_step {row : List Nat} {b : List Nat} {i k c x : Nat} (hlen : row.length = i + k) (h : val row + c * 65536 ^ (i + k) = x * val (b.take k) * 65536 ^ i) :
    val (row ++ [(x * b.getD k 0 + c) % 65536]) + (x * b.getD k 0 + c) / 65536 * 65536 ^ (i + (k + 1)) = x * val (b.take (k + 1)) * 65536 ^ i := by
  rw [val_snoc, val_take, hlen, Nat.mul_add x, Nat.add_mul, ← h, ← Nat.add_assoc i k 1, Nat.pow_succ, Nat.pow_add]
  generalize b.getD k 0 = y at *
  generalize 65536 ^ i = p at *
  generalize 65536 ^ k = r at *
  have e : (x * y + c) % 65536 * (p * r) + (x * y + c) / 65536 * (p * r * 65536) = c * (p * r) + x * (y * r) * p := by
    have e1 : x * (y * r) * p = x * y * (p * r) := by
      rw [← Nat.mul_assoc, Nat.mul_assoc (x * y), Nat.mul_comm r p]
    rw [e1]
    generalize p * r = q
    rw [Nat.mul_comm q 65536, ← Nat.mul_assoc, ← Nat.add_mul, ← Nat.add_mul]
    congr 1
    omega
  generalize (x * y + c) % 65536 * (p * r) = u at *
  generalize (x * y + c) / 65536 * (p * r * 65536) = v at *
  omega

/-- which of two is less: the digits above are alike, the one at hand isn't -/
theorem less_digit {a b : List Nat} {i : Nat} (ha : Digits a) (hb : Digits b) (h : val a + val (b.take (i + 1)) = val b + val (a.take (i + 1))) (hne : a.getD i 0 ≠ b.getD i 0) :
    (val a < val b ↔ a.getD i 0 < b.getD i 0) := by
  have h1 := val_lt _ (ha.take i)
  have h2 := val_lt _ (hb.take i)
  have l1 : 65536 ^ (a.take i).length ≤ 65536 ^ i := Nat.pow_le_pow_right (by omega) (by rw [List.length_take]; omega)
  have l2 : 65536 ^ (b.take i).length ≤ 65536 ^ i := Nat.pow_le_pow_right (by omega) (by rw [List.length_take]; omega)
  rw [val_take, val_take] at h
  generalize 65536 ^ i = p at *
  generalize a.getD i 0 = x at *
  generalize b.getD i 0 = y at *
  generalize val (a.take i) = A at *
  generalize val (b.take i) = B at *
  have hA : A < p := by omega
  have hB : B < p := by omega
  constructor
  · intro hlt
    refine Nat.lt_of_le_of_ne (Nat.le_of_not_lt fun hgt => ?_) hne
    have := Nat.mul_le_mul_right p (show y + 1 ≤ x by omega)
    rw [Nat.add_mul] at this
    omega
  · intro hlt
    have := Nat.mul_le_mul_right p (show x + 1 ≤ y by omega)
    rw [Nat.add_mul] at this
    omega

theorem less_down {a b : List Nat} {i : Nat} (h : val a + val (b.take (i + 1)) = val b + val (a.take (i + 1))) (he : a.getD i 0 = b.getD i 0) :
    val a + val (b.take i) = val b + val (a.take i) := by
  rw [val_take, val_take, he] at h
  omega

theorem less_len {a b : List Nat} (ha : Canon a) (hb : Canon b) (h : a.length ≠ b.length) : (val a < val b ↔ a.length < b.length) := by
  have h1 := val_lt a ha.1
  have h2 := val_lt b hb.1
  constructor
  · intro hv
    exact Nat.lt_of_le_of_ne (canon_len ha (by omega)) h
  · intro hl
    have h3 := canon_ge hb (by omega)
    have h4 : 65536 ^ a.length ≤ 65536 ^ (b.length - 1) := Nat.pow_le_pow_right (by omega) (by omega)
    omega
end Go.Proofs.YtcdkgfjjgebcnaaDoor
