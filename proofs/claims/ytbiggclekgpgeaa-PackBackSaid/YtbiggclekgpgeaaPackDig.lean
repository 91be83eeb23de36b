/- Plain digits of layer 6, as the landed reader takes them: one by one, from the lowest on. -/
import Derived.Test.YtbiggclekgpgeaaPackNum
namespace Go.Proofs.Ytbiggclekgpgeaa
open Go
set_option linter.unusedVariables false

/-- bytes that tell that another one follows -/
def Cont (l : List Nat) : Prop := ∀ b ∈ l, 127 < b ∧ b < 256

theorem dig7_join : ∀ (l : List Nat), Cont l → ∀ q, (l = [] ∨ 0 < q) → dig7 (val7 l + q * 128 ^ l.length) = l ++ dig7 q := by
  intro l
  induction l with
  | nil => intro _ q _; simp [val7]
  | cons b l ih =>
    intro hc q hq
    have hb := hc b (by simp)
    have hc' : Cont l := fun x hx => hc x (by simp [hx])
    have hq' : 0 < q := by rcases hq with h | h; exact absurd h (by simp); exact h
    have hp : 0 < 128 ^ l.length := Nat.pow_pos (by omega)
    have hm : 0 < q * 128 ^ l.length := Nat.mul_pos hq' hp
    have e : val7 (b :: l) + q * 128 ^ (b :: l).length = b % 128 + 128 * (val7 l + q * 128 ^ l.length) := by
      simp only [val7, List.length_cons, Nat.pow_succ]
      rw [Nat.mul_add, ← Nat.mul_assoc q, Nat.mul_comm (q * 128 ^ l.length) 128]
      omega
    rw [e, dig7_ge (by omega)]
    rw [show (b % 128 + 128 * (val7 l + q * 128 ^ l.length)) / 128 = val7 l + q * 128 ^ l.length by omega, ih hc' q (Or.inr hq')]
    simp only [List.cons_append, List.cons.injEq, and_true]
    omega

theorem dig7_part : ∀ (l : List Nat), Cont l → ∀ u r t, dig7 u ++ r = l ++ t → ∃ q, dig7 q ++ r = t ∧ u = val7 l + q * 128 ^ l.length ∧ (l = [] ∨ 0 < q) := by
  intro l
  induction l with
  | nil => intro _ u r t h; exact ⟨u, h, by simp [val7], Or.inl rfl⟩
  | cons b l ih =>
    intro hc u r t h
    have hb := hc b (by simp)
    by_cases hu : u < 128
    · rw [dig7_lt hu] at h
      simp only [List.cons_append, List.nil_append, List.cons.injEq] at h
      omega
    · rw [dig7_ge (by omega)] at h
      simp only [List.cons_append, List.cons.injEq] at h
      obtain ⟨h1, h2⟩ := h
      obtain ⟨q, h3, h4, h5⟩ := ih (fun x hx => hc x (by simp [hx])) _ _ _ h2
      refine ⟨q, h3, ?_, ?_⟩
      · have e : q * 128 ^ (b :: l).length = 128 * (q * 128 ^ l.length) := by
          simp only [List.length_cons, Nat.pow_succ]
          rw [← Nat.mul_assoc, Nat.mul_comm]
        rw [e]
        simp only [val7]
        omega
      · rcases h5 with h5 | h5
        · subst h5
          simp only [val7, List.length_nil, Nat.pow_zero, Nat.mul_one, Nat.zero_add] at h4
          exact Or.inr (by omega)
        · exact Or.inr h5

theorem dig7_one {q x : Nat} {r s : List Nat} (h : dig7 q ++ r = x :: s) (hx : x < 128) : q = x ∧ r = s := by
  by_cases hq : q < 128
  · rw [dig7_lt hq] at h
    simp only [List.cons_append, List.nil_append, List.cons.injEq] at h
    exact h
  · rw [dig7_ge (by omega)] at h
    simp only [List.cons_append, List.cons.injEq] at h
    omega

theorem dig7_low {q x : Nat} {r s : List Nat} (h : dig7 q ++ r = x :: s) : x % 128 ≤ q := by
  by_cases hq : q < 128
  · rw [dig7_lt hq] at h
    simp only [List.cons_append, List.nil_append, List.cons.injEq] at h
    omega
  · omega

theorem dig7_none {q : Nat} {r : List Nat} (h : dig7 q ++ r = []) : False := by
  have := dig7_len q
  have h2 := congrArg List.length h
  rw [List.length_append, List.length_nil] at h2
  omega

/-- no digits of 64 bits begin there -/
def DigNo (l : List Nat) : Prop := ∀ u r, u < 18446744073709551616 → l ≠ dig7 u ++ r

theorem DigNo.rd {l : List Nat} (h : DigNo l) : RdNo l := fun v r hv e => h (zig v) r (zig_64 hv) e

theorem digNo_end {l : List Nat} (hc : Cont l) : DigNo l := by
  intro u r _ e
  obtain ⟨q, h, _⟩ := dig7_part l hc u r [] (by rw [List.append_nil]; exact e.symm)
  exact dig7_none h

theorem digNo_big {l s : List Nat} {x : Nat} (hc : Cont l) (h : 18446744073709551616 ≤ val7 l + x % 128 * 128 ^ l.length) : DigNo (l ++ x :: s) := by
  intro u r hu e
  obtain ⟨q, h1, h2, _⟩ := dig7_part l hc u r (x :: s) e.symm
  have h3 := Nat.mul_le_mul_right (128 ^ l.length) (dig7_low h1)
  omega

theorem digNo_zero {l s : List Nat} (hc : Cont l) (hl : l ≠ []) : DigNo (l ++ 0 :: s) := by
  intro u r hu e
  obtain ⟨q, h1, h2, h3⟩ := dig7_part l hc u r (0 :: s) e.symm
  have h4 := (dig7_one h1 (by omega)).1
  rcases h3 with h3 | h3
  · exact hl h3
  · omega

theorem dig_yes {l s : List Nat} {x : Nat} (hc : Cont l) (hx : x < 128) (h : l = [] ∨ 0 < x) : l ++ x :: s = dig7 (val7 l + x * 128 ^ l.length) ++ s := by
  rw [dig7_join l hc x h, dig7_lt hx]
  simp

theorem val7_snoc (l : List Nat) (x : Nat) : val7 (l ++ [x]) = val7 l + x % 128 * 128 ^ l.length := by
  induction l with
  | nil => simp [val7]
  | cons b l ih =>
    have e : x % 128 * 128 ^ (b :: l).length = 128 * (x % 128 * 128 ^ l.length) := by
      simp only [List.length_cons, Nat.pow_succ]
      rw [← Nat.mul_assoc, Nat.mul_comm]
    simp only [List.cons_append, val7, ih]
    rw [e]
    omega

theorem val7_lt (l : List Nat) : val7 l < 128 ^ l.length := by
  induction l with
  | nil => simp [val7]
  | cons b l ih =>
    simp only [val7, List.length_cons, Nat.pow_succ]
    omega

theorem cont_snoc {l : List Nat} {x : Nat} (h : Cont l) (h1 : 127 < x) (h2 : x < 256) : Cont (l ++ [x]) := by
  intro b hb
  rcases List.mem_append.1 hb with hb | hb
  · exact h b hb
  · rw [List.mem_singleton.1 hb]; exact ⟨h1, h2⟩

/-- a digit, shifted to its place in 64 bits -/
theorem shl_place (d i : Nat) (hd : d < 128) : (d : Int) * 2 ^ min (7 * i) 64 % 18446744073709551616 = (((if i ≤ 9 then d * 128 ^ i else 0) % 18446744073709551616 : Nat) : Int) := by
  have e : (d : Int) * 2 ^ min (7 * i) 64 = ((d * 2 ^ min (7 * i) 64 : Nat) : Int) := by simp
  rw [e, show (18446744073709551616 : Int) = ((18446744073709551616 : Nat) : Int) by rfl, ← Int.natCast_emod]
  congr 1
  by_cases h : i ≤ 9
  · rw [if_pos h, Nat.min_eq_left (by omega), Nat.pow_mul]
  · rw [if_neg h, Nat.min_eq_right (by omega)]
    rw [show 2 ^ 64 = 18446744073709551616 by rfl]
    omega

/-- and back: it is whole if it had room -/
theorem shr_place (d i : Nat) (hd : d < 128) :
    (((((if i ≤ 9 then d * 128 ^ i else 0) % 18446744073709551616) / 2 ^ min (7 * i) 64 : Nat) : Int) = (d : Int)) ↔ d * 128 ^ i < 18446744073709551616 := by
  rw [Int.natCast_inj]
  by_cases h : i ≤ 9
  · rw [if_pos h, Nat.min_eq_left (by omega), Nat.pow_mul]
    rw [show (2 ^ 7 : Nat) = 128 by rfl]
    obtain ⟨K, hK⟩ : ∃ K, 128 ^ i = K := ⟨_, rfl⟩
    have hp : 0 < K := by rw [← hK]; exact Nat.pow_pos (by omega)
    rw [hK]
    constructor
    · intro e
      refine Nat.lt_of_not_le fun hge => ?_
      have h1 : d * K % 18446744073709551616 < d * K := by
        have := Nat.mod_lt (d * K) (show 18446744073709551616 > 0 by omega)
        omega
      have h2 : d * K % 18446744073709551616 / K < d := (Nat.div_lt_iff_lt_mul hp).2 h1
      omega
    · intro hlt
      rw [Nat.mod_eq_of_lt hlt, Nat.mul_div_cancel _ hp]
  · rw [if_neg h]
    have h10 : 128 ^ 10 ≤ 128 ^ i := Nat.pow_le_pow_right (by omega) (by omega)
    have h11 : (128 : Nat) ^ 10 = 1180591620717411303424 := by decide
    simp only [Nat.zero_mod, Nat.zero_div]
    constructor
    · intro e
      subst e
      omega
    · intro hlt
      rcases Nat.eq_zero_or_pos d with h0 | h0
      · exact h0.symm
      · have := Nat.mul_le_mul h0 h10
        omega

/-- what has room is there as it is -/
theorem place_is (d i : Nat) (h : d * 128 ^ i < 18446744073709551616) : (if i ≤ 9 then d * 128 ^ i else 0) % 18446744073709551616 = d * 128 ^ i := by
  by_cases hi : i ≤ 9
  · rw [if_pos hi, Nat.mod_eq_of_lt h]
  · rw [if_neg hi]
    have h10 : 128 ^ 10 ≤ 128 ^ i := Nat.pow_le_pow_right (by omega) (by omega)
    have h11 : (128 : Nat) ^ 10 = 1180591620717411303424 := by decide
    rcases Nat.eq_zero_or_pos d with h0 | h0
    · subst h0; simp
    · have := Nat.mul_le_mul h0 h10
      omega

/-- an or of what doesn't overlap is a sum -/
theorem or_place (u d i : Nat) (hu : u < 128 ^ i) (hu64 : u < 18446744073709551616) (hd : d * 128 ^ i < 18446744073709551616) : u ||| d * 128 ^ i = u + d * 128 ^ i := by
  rw [Nat.or_comm, Nat.mul_comm d, Nat.add_comm]
  have e : 128 ^ i = 2 ^ (7 * i) := by rw [Nat.pow_mul]
  rw [e] at hu ⊢
  exact (Nat.two_pow_add_eq_or_of_lt hu d).symm
theorem sum_lt (u d i : Nat) (hu : u < 128 ^ i) (hu64 : u < 18446744073709551616) (hd : d * 128 ^ i < 18446744073709551616) : u + d * 128 ^ i < 18446744073709551616 := by
  by_cases h0 : d = 0
  · subst h0; simpa using hu64
  · by_cases hi : i ≤ 9
    · have e : ∃ k, 128 ^ i * k = 18446744073709551616 := by
        refine ⟨2 ^ (64 - 7 * i), ?_⟩
        rw [show (128 : Nat) = 2 ^ 7 by rfl, ← Nat.pow_mul, ← Nat.pow_add, show 7 * i + (64 - 7 * i) = 64 by omega]
      obtain ⟨k, hk⟩ := e
      rw [← hk] at hd ⊢
      rw [Nat.mul_comm d] at hd ⊢
      have hdk : d < k := Nat.lt_of_mul_lt_mul_left hd
      have h1 : 128 ^ i * (d + 1) ≤ 128 ^ i * k := Nat.mul_le_mul_left _ hdk
      rw [Nat.mul_add] at h1
      omega
    · have h10 : 128 ^ 10 ≤ 128 ^ i := Nat.pow_le_pow_right (by omega) (by omega)
      have h11 : (128 : Nat) ^ 10 = 1180591620717411303424 := by decide
      have := Nat.mul_le_mul (show 1 ≤ d by omega) h10
      omega
end Go.Proofs.Ytbiggclekgpgeaa
