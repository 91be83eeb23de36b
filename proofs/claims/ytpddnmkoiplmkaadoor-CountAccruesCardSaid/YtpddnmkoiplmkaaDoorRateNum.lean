/- Plain numbers of layer 2: a month's interest, what is left behind months. No program in sight. -/
import Derived.Test.YtpddnmkoiplmkaaDoorRnd
namespace Go.Proofs.YtpddnmkoiplmkaaDoor
open Go
set_option linter.unusedVariables false

/-- a month's interest -/
def mon (b r : Int) : Int := rndC 4 (b * r) 12000000

theorem rnd4_mono {n m : Int} (h : n ≤ m) : rndC 4 n 12000000 ≤ rndC 4 m 12000000 := by
  unfold rndC
  simp only [show ¬ (4 : Int) = 1 by omega, show ¬ (4 : Int) = 2 by omega, show ¬ (4 : Int) = 3 by omega, or_false, true_and, false_and, if_false]
  split <;> split <;> (try omega) <;> split <;> (try omega) <;> split <;> (try omega) <;> split <;> (try omega) <;> split <;> (try omega) <;> split <;> omega

theorem mon_mono {a b r : Int} (hr : 0 ≤ r) (h : a ≤ b) : mon a r ≤ mon b r :=
  rnd4_mono (Int.mul_le_mul_of_nonneg_right h hr)

theorem mon_zero (r : Int) : mon 0 r = 0 := by simp [mon, rndC]

theorem mon_bound {b r : Int} (hb : 0 ≤ b) (hr : 0 ≤ r) (hr' : r ≤ 300000) : 0 ≤ mon b r ∧ mon b r ≤ b / 40 + 1 := by
  constructor
  · rw [← mon_zero r]; exact mon_mono hr hb
  · refine Int.le_trans (rnd4_mono (Int.mul_le_mul_of_nonneg_left hr' hb)) ?_
    unfold rndC
    split
    · omega
    · split
      · omega
      · split
        · omega
        · split
          · omega
          · split <;> omega

theorem prod_bound {b r : Int} (hb : 0 ≤ b) (hb' : b ≤ 10000000000000) (hr : 0 ≤ r) (hr' : r ≤ 300000) : 0 ≤ b * r ∧ b * r ≤ 3000000000000000000 := by
  refine ⟨Int.mul_nonneg hb hr, ?_⟩
  have h1 : b * r ≤ b * 300000 := Int.mul_le_mul_of_nonneg_left hr' hb
  omega

/-- what MulDiv tells of a month -/
theorem mon_md {b r : Int} (hb : 0 ≤ b) (hb' : b ≤ 10000000000000) (hr : 0 ≤ r) (hr' : r ≤ 300000) : mdV b r 12000000 4 = mon b r ∧ mdE b r 12000000 4 = 0 := by
  have h := mon_bound hb hr hr'
  have e : rnd 4 (b * r) 12000000 = mon b r := by unfold rnd mon; rw [if_neg (by omega)]
  unfold mdV mdE
  rw [if_neg (by omega), if_neg (by omega), e]
  exact ov_in (by omega)

/-- may a balance and a rate be? -/
def mayP (b r : Int) : Prop := 0 ≤ b ∧ b ≤ 10000000000000 ∧ 0 ≤ r ∧ r ≤ 300000
instance (b r : Int) : Decidable (mayP b r) := by unfold mayP; infer_instance
def mayQ (b r : Int) : Bool := decide (mayP b r)

/-- the next balance -/
def nxt (b r p : Int) : Int := if b + mon b r < p then 0 else b + mon b r - p

theorem nxt_bound {b r p : Int} (h : mayP b r) (hp : 0 ≤ p) : 0 ≤ nxt b r p ∧ nxt b r p ≤ 10250000000001 ∧ b - p ≤ nxt b r p := by
  obtain ⟨a, c, d, e⟩ := h
  have := mon_bound a d e
  unfold nxt
  split <;> omega

theorem nxt_mono {a b r p q : Int} (hr : 0 ≤ r) (h : a ≤ b) (hp : p ≤ q) : nxt a r q ≤ nxt b r p := by
  have := mon_mono hr h
  unfold nxt
  split <;> split <;> omega

/-- what is left behind so many months; none: a balance is too great -/
def lft (r p : Int) : Nat → Int → Option Int
  | 0, b => some b
  | n + 1, b => if 10000000000000 < nxt b r p then none else lft r p n (nxt b r p)

theorem lft_succ (r p : Int) (n : Nat) (b : Int) : lft r p (n + 1) b = if 10000000000000 < nxt b r p then none else lft r p n (nxt b r p) := rfl

theorem lft_add (r p : Int) (m n : Nat) (b : Int) : lft r p (m + n) b = (lft r p m b).bind (lft r p n) := by
  induction m generalizing b with
  | zero => simp [lft]
  | succ m ih =>
    rw [Nat.add_right_comm, lft_succ, lft_succ]
    split
    · rfl
    · exact ih _

theorem lft_bound {r p : Int} (hr : 0 ≤ r) (hr' : r ≤ 300000) (hp : 0 ≤ p) (n : Nat) : ∀ {b x : Int}, 0 ≤ b → b ≤ 10000000000000 → lft r p n b = some x → 0 ≤ x ∧ x ≤ 10000000000000 ∧ b - (n : Int) * p ≤ x := by
  induction n with
  | zero => intro b x h h' e; simp [lft] at e; subst e; simp; omega
  | succ n ih =>
    intro b x h h' e
    have hb := nxt_bound (p := p) ⟨h, h', hr, hr'⟩ hp
    rw [lft_succ] at e
    split at e
    · cases e
    · have := ih hb.1 (by omega) e
      have e2 : ((n + 1 : Nat) : Int) * p = (n : Int) * p + p := by rw [Int.natCast_add, Int.add_mul]; simp
      rw [e2]
      generalize (n : Int) * p = k at *
      omega

theorem lft_mono {r p q : Int} (hr : 0 ≤ r) (hr' : r ≤ 300000) (hp : 0 ≤ p) (hpq : p ≤ q) (n : Nat) : ∀ {a b x : Int}, 0 ≤ a → a ≤ b → b ≤ 10000000000000 → lft r p n b = some x →
    ∃ y, lft r q n a = some y ∧ y ≤ x := by
  induction n with
  | zero => intro a b x h0 h h' e; simp [lft] at e; subst e; exact ⟨a, rfl, h⟩
  | succ n ih =>
    intro a b x h0 h h' e
    have hb := nxt_bound (b := b) (p := p) ⟨by omega, h', hr, hr'⟩ hp
    have ha := nxt_bound (b := a) (p := q) ⟨h0, by omega, hr, hr'⟩ (by omega)
    have hm := nxt_mono (r := r) hr h hpq
    rw [lft_succ] at e
    rw [lft_succ]
    split at e
    · cases e
    · rw [if_neg (by omega)]
      exact ih ha.1 hm (by omega) e

/-- is nothing left? -/
def paysP (b r p : Int) (n : Nat) : Prop := lft r p n b = some 0
instance (b r p : Int) (n : Nat) : Decidable (paysP b r p n) := by unfold paysP; infer_instance
def paysQ (b r p : Int) (n : Nat) : Bool := decide (paysP b r p n)

theorem pays_mono {b r p q : Int} {n : Nat} (h : mayP b r) (hp : 0 ≤ p) (hpq : p ≤ q) (hs : paysP b r p n) : paysP b r q n := by
  obtain ⟨a, c, d, e⟩ := h
  obtain ⟨y, hy, hy'⟩ := lft_mono d e hp hpq n a (Int.le_refl b) c hs
  have := lft_bound d e (by omega) n a c hy
  have : y = 0 := by omega
  unfold paysP
  rw [hy, this]

/-- with less than a share a month something is left -/
theorem pays_share {b r p : Int} {n : Nat} (h : mayP b r) (hp : 0 ≤ p) (hs : paysP b r p n) : b ≤ (n : Int) * p := by
  obtain ⟨a, c, d, e⟩ := h
  have := lft_bound d e hp n a c hs
  omega

theorem lft_down {r s i B : Int} (hr : 0 ≤ r) (hr' : r ≤ 300000) (hs : 0 ≤ s) (hi : mon B r ≤ i) (hi0 : 0 ≤ i) (hB : B ≤ 10000000000000) (n : Nat) : ∀ {b : Int}, 0 ≤ b → b ≤ B →
    ∃ x, lft r (s + i) n b = some x ∧ (x ≤ 0 ∨ x ≤ b - (n : Int) * s) := by
  induction n with
  | zero => intro b h h'; exact ⟨b, rfl, Or.inr (by simp)⟩
  | succ n ih =>
    intro b h h'
    have hm := mon_mono hr h'
    have hb := nxt_bound (b := b) (p := s + i) ⟨h, by omega, hr, hr'⟩ (by omega)
    have hn : nxt b r (s + i) ≤ 0 ∨ nxt b r (s + i) ≤ b - s := by
      unfold nxt; split <;> omega
    rw [lft_succ, if_neg (by omega)]
    obtain ⟨x, hx, hx'⟩ := ih hb.1 (by omega)
    refine ⟨x, hx, ?_⟩
    have e2 : ((n + 1 : Nat) : Int) * s = (n : Int) * s + s := by rw [Int.natCast_add, Int.add_mul]; simp
    have : 0 ≤ (n : Int) * s := Int.mul_nonneg (by omega) hs
    rw [e2]
    generalize (n : Int) * s = k at *
    omega

/-- a share and the first month's interest pays all -/
theorem pays_high {b r s : Int} {n : Nat} (h : mayP b r) (hs : 0 ≤ s) (hb : b ≤ (n : Int) * s) : paysP b r (s + mon b r) n := by
  obtain ⟨a, c, d, e⟩ := h
  have hm := mon_bound a d e
  obtain ⟨x, hx, hx'⟩ := lft_down d e hs (Int.le_refl (mon b r)) hm.1 c n a (Int.le_refl b)
  have := lft_bound d e (by omega) n a c hx
  have : x = 0 := by omega
  unfold paysP
  rw [hx, this]

/-- a share: the balance by the months, rounded up -/
theorem share_md {b n : Int} (hb : 0 ≤ b) (hb' : b ≤ 10000000000000) (hn : 1 ≤ n) (hn' : n ≤ 480) : ∃ s : Int, mdV b 1 n 2 = s ∧ mdE b 1 n 2 = 0 ∧ 0 ≤ s ∧ s ≤ 10000000000001 ∧ b ≤ n * s ∧ (s ≤ 0 ∨ n * (s - 1) < b) := by
  have hd := Int.mul_ediv_add_emod b n
  have h1 := Int.emod_nonneg b (show n ≠ 0 by omega)
  have h2 := Int.emod_lt_of_pos b (show 0 < n by omega)
  have h3 : 0 ≤ b / n := Int.ediv_nonneg hb (by omega)
  have h4 : b / n ≤ b := Int.ediv_le_self n hb
  have e : rnd 2 (b * 1) n = if b % n = 0 then b / n else b / n + 1 := by
    unfold rnd rndC
    rw [if_neg (by omega), Int.mul_one]
    by_cases h : b % n = 0
    · rw [if_pos (Or.inl h), if_pos h]
    · rw [if_neg (by omega), if_pos rfl, if_neg h]
  unfold mdV mdE
  rw [if_neg (by omega), if_neg (by omega), e]
  by_cases h : b % n = 0
  · rw [if_pos h]
    obtain ⟨g1, g2⟩ := ov_in (n := b / n) (by omega)
    refine ⟨b / n, g1, g2, h3, by omega, by omega, ?_⟩
    have : n * (b / n - 1) = n * (b / n) - n := by rw [Int.mul_sub, Int.mul_one]
    right; omega
  · rw [if_neg h]
    obtain ⟨g1, g2⟩ := ov_in (n := b / n + 1) (by omega)
    have : n * (b / n + 1) = n * (b / n) + n := by rw [Int.mul_add, Int.mul_one]
    have e2 : b / n + 1 - 1 = b / n := by omega
    refine ⟨b / n + 1, g1, g2, by omega, by omega, by omega, ?_⟩
    rw [e2]
    right; omega

/-- the least payment -/
def Least (b r : Int) (n : Nat) (p : Int) : Prop := 0 ≤ p ∧ p ≤ 20250000000002 ∧ paysP b r p n ∧ ∀ q, 0 ≤ q → q < p → ¬ paysP b r q n

theorem Least.one {b r p q : Int} {n : Nat} (h : Least b r n p) (h' : Least b r n q) : p = q := by
  obtain ⟨a1, _, a2, a3⟩ := h
  obtain ⟨b1, _, b2, b3⟩ := h'
  by_cases c : p < q
  · exact absurd a2 (b3 p a1 c)
  · by_cases d : q < p
    · exact absurd b2 (a3 q b1 d)
    · omega

/-- the search's relation: low to high -/
def Search (b r : Int) (n : Nat) (l h : Int) : Prop := 0 ≤ l ∧ l ≤ h ∧ h ≤ 20250000000002 ∧ paysP b r h n ∧ ∀ q, 0 ≤ q → q < l → ¬ paysP b r q n

theorem Search.start {b r s : Int} {n : Nat} (h : mayP b r) (hs : 0 ≤ s) (hs' : s ≤ 10000000000001) (hb : b ≤ (n : Int) * s) (hl : s ≤ 0 ∨ (n : Int) * (s - 1) < b) : Search b r n s (s + mon b r) := by
  have hm := mon_bound h.1 h.2.2.1 h.2.2.2
  have h2 := h.2.1
  refine ⟨hs, by omega, by omega, pays_high h hs hb, fun q hq hq' hp => ?_⟩
  have h1 := pays_share h hq hp
  have : (n : Int) * q ≤ (n : Int) * (s - 1) := Int.mul_le_mul_of_nonneg_left (by omega) (by omega)
  omega

theorem Search.yes {b r l h m : Int} {n : Nat} (hs : Search b r n l h) (h1 : l ≤ m) (h2 : m < h) (hp : paysP b r m n) : Search b r n l m :=
  ⟨hs.1, h1, by have := hs.2.2.1; omega, hp, hs.2.2.2.2⟩

theorem Search.no {b r l h m : Int} {n : Nat} (hb : mayP b r) (hs : Search b r n l h) (h1 : l ≤ m) (h2 : m < h) (hp : ¬ paysP b r m n) : Search b r n (m + 1) h :=
  ⟨by have := hs.1; omega, by omega, hs.2.2.1, hs.2.2.2.1, fun q hq hq' hc => hp (pays_mono hb hq (by omega) hc)⟩

theorem Search.done {b r l h : Int} {n : Nat} (hs : Search b r n l h) (h1 : ¬ l < h) : Least b r n l := by
  have e : l = h := by have := hs.2.1; omega
  exact ⟨hs.1, by have := hs.2.2.1; omega, by rw [e]; exact hs.2.2.2.1, hs.2.2.2.2⟩
end Go.Proofs.YtpddnmkoiplmkaaDoor
