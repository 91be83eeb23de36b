/- Plain arrays: blocks in order, and blocks of twice the size. No program in sight. -/
import Derived.Test.YtkmoibikempieaaStable
namespace Go.Proofs.Ytkmoibikempieaa
open Go.Sort
set_option linter.unusedVariables false
variable {α : Type} [Inhabited α] {lt : α → α → Bool} {tt : α → α → Prop} {pl : α → Nat}

/-- all blocks of that size from there to the end -/
inductive Chn (P : Nat → Nat → Prop) (s n : Nat) : Nat → Prop where
  | none {a : Nat} : n ≤ a → Chn P s n a
  | more {a : Nat} : a < n → P a (min (a + s) n) → Chn P s n (a + s) → Chn P s n a

/-- all blocks of that size up to there -/
inductive Frt (P : Nat → Nat → Prop) (s : Nat) : Nat → Prop where
  | none : Frt P s 0
  | more {a : Nat} : Frt P s a → P a (a + s) → Frt P s (a + s)

theorem Frt.all {P : Nat → Nat → Prop} {s n a : Nat} (h : Frt P s a) (hs : 0 < s) (ha : a ≤ n) (c : Chn P s n a) : Chn P s n 0 := by
  induction h with
  | none => exact c
  | more h p ih => exact ih (by omega) (Chn.more (by omega) (by rw [Nat.min_eq_left ha]; exact p) c)

theorem Chn.same {P Q : Nat → Nat → Prop} {s n lo a : Nat} (h : Chn P s n a) (hlo : lo ≤ a) (hq : ∀ x y, lo ≤ x → y ≤ n → P x y → Q x y) : Chn Q s n a := by
  induction h with
  | none h => exact Chn.none h
  | more h p _ ih => exact Chn.more h (hq _ _ hlo (Nat.min_le_right _ _) p) (ih (by omega))

theorem Frt.same {P Q : Nat → Nat → Prop} {s a hi : Nat} (h : Frt P s a) (ha : a ≤ hi) (hq : ∀ x y, y ≤ hi → P x y → Q x y) : Frt Q s a := by
  induction h with
  | none => exact Frt.none
  | more h p ih => exact Frt.more (ih (by omega)) (hq _ _ ha p)

theorem Chn.two {P : Nat → Nat → Prop} {s n a : Nat} (h : Chn P s n a) (hs : 0 < s) (hn : a + 2 * s ≤ n) : P a (a + s) ∧ P (a + s) (a + 2 * s) ∧ Chn P s n (a + 2 * s) := by
  cases h with
  | none h => omega
  | more h p c =>
    rw [Nat.min_eq_left (by omega)] at p
    cases c with
    | none h => omega
    | more h2 p2 c2 =>
      rw [Nat.min_eq_left (by omega)] at p2
      rw [show a + s + s = a + 2 * s by omega] at p2 c2
      exact ⟨p, p2, c2⟩

theorem Chn.last {P : Nat → Nat → Prop} {s n a : Nat} (h : Chn P s n a) (h1 : a + s < n) (h2 : n < a + 2 * s) : P a (a + s) ∧ P (a + s) n := by
  cases h with
  | none h => omega
  | more h p c =>
    rw [Nat.min_eq_left (by omega)] at p
    cases c with
    | none h => omega
    | more h2 p2 c2 =>
      rw [Nat.min_eq_right (by omega)] at p2
      exact ⟨p, p2⟩

theorem Chn.one {P : Nat → Nat → Prop} {s n a : Nat} (h : Chn P s n a) (h2 : n ≤ a + s) : Chn P (2 * s) n a := by
  cases h with
  | none h => exact Chn.none h
  | more h p c =>
    rw [Nat.min_eq_right (by omega)] at p
    exact Chn.more h (by rw [Nat.min_eq_right (by omega)]; exact p) (Chn.none (by omega))

/-- blocks of an array -/
def Gd (tt : α → α → Prop) (pl : α → Nat) (d : Array α) : Nat → Nat → Prop := fun a b => Good tt pl a b d

/-- ahead of a: in order; from there on as they were -/
structure St1 (tt : α → α → Prop) (pl : α → Nat) (n a : Nat) (d d' : Array α) : Prop where
  perm : PermIn 0 n d d'
  done : Frt (Gd tt pl d') 20 a
  rest : ∀ i, a ≤ i → d'[i]! = d[i]!

theorem St1.start (n : Nat) (d : Array α) : St1 tt pl n 0 d d := ⟨prefl _ _ _, Frt.none, fun _ _ => rfl⟩
theorem good_first {n a b : Nat} {d d' d2 : Array α} (hp : ∀ i, i < n → pl d[i]! = i) (h : St1 tt pl n a d d') (hb : b ≤ n) (hn : n ≤ d.size) (g : Mgd tt a b d' d2) : Good tt pl a b d2 := by
  have e := psize h.perm
  refine ⟨g.2, all_of_perm g.1 (by omega) (fun x => a ≤ pl x ∧ pl x < b) fun i h1 h2 => ?_⟩
  rw [h.rest i h1, hp i (by omega)]; exact ⟨h1, h2⟩
theorem St1.step {n a : Nat} {d d' d2 : Array α} (hp : ∀ i, i < n → pl d[i]! = i) (h : St1 tt pl n a d d') (hb : a + 20 ≤ n) (hn : n ≤ d.size) (g : Mgd tt a (a + 20) d' d2) : St1 tt pl n (a + 20) d d2 := by
  have e := psize h.perm
  exact ⟨ptrans h.perm (pmono g.1 (by omega) hb (by omega)),
    Frt.more (h.done.same (Nat.le_refl _) fun x y hy p => Good.same p fun i _ hi => pout g.1 (Or.inl (by omega))) (good_first hp h hb hn g),
    fun i hi => (pout g.1 (Or.inr hi)).trans (h.rest i (by omega))⟩
theorem St1.pls {n a b : Nat} {d d' : Array α} (hp : ∀ i, i < n → pl d[i]! = i) (h : St1 tt pl n a d d') (hb : b ≤ n) : ∀ p q, a ≤ p → p < q → q < b → pl d'[p]! < pl d'[q]! := fun p q h1 h2 h3 => by
  rw [h.rest p h1, h.rest q (by omega), hp p (by omega), hp q (by omega)]; exact h2

/-- all blocks of that size are in order -/
structure St2 (tt : α → α → Prop) (pl : α → Nat) (n s : Nat) (d d' : Array α) : Prop where
  perm : PermIn 0 n d d'
  all : Chn (Gd tt pl d') s n 0

theorem St1.last {n a : Nat} {d d' d2 : Array α} (hp : ∀ i, i < n → pl d[i]! = i) (h : St1 tt pl n a d d') (ha : a ≤ n) (hb : n < a + 20) (hn : n ≤ d.size) (g : Mgd tt a n d' d2) : St2 tt pl n 20 d d2 := by
  have e := psize h.perm
  refine ⟨ptrans h.perm (pmono g.1 (by omega) (Nat.le_refl _) (by omega)), ?_⟩
  have f := h.done.same (Nat.le_refl _) (Q := Gd tt pl d2) fun x y hy p => Good.same p fun i _ hi => pout g.1 (Or.inl (by omega))
  refine f.all (by omega) ha ?_
  by_cases c : a < n
  · exact Chn.more c (by rw [Nat.min_eq_right (by omega)]; exact good_first hp h (Nat.le_refl _) hn g) (Chn.none (by omega))
  · exact Chn.none (by omega)

/-- ahead of a: blocks of twice the size; from there on of the size -/
structure St3 (tt : α → α → Prop) (pl : α → Nat) (n s a : Nat) (d d' : Array α) : Prop where
  perm : PermIn 0 n d d'
  done : Frt (Gd tt pl d') (2 * s) a
  rest : Chn (Gd tt pl d') s n a

theorem St2.start {n s : Nat} {d d' : Array α} (h : St2 tt pl n s d d') : St3 tt pl n s 0 d d' := ⟨h.perm, Frt.none, h.all⟩
theorem St3.mrg {n s a : Nat} {d d' : Array α} (h : St3 tt pl n s a d d') (hs : 0 < s) (ha : a + 2 * s ≤ n) (hn : n ≤ d.size) : Mrg tt pl a (a + s) (a + 2 * s) d' := by
  have e := psize h.perm
  obtain ⟨p, q, _⟩ := h.rest.two hs ha
  exact Good.mrg p q (by omega) (by omega) (by omega)
theorem St3.step {n s a : Nat} {d d' d2 : Array α} (h : St3 tt pl n s a d d') (hs : 0 < s) (ha : a + 2 * s ≤ n) (hn : n ≤ d.size) (g : Mgd tt a (a + 2 * s) d' d2) : St3 tt pl n s (a + 2 * s) d d2 := by
  have e := psize h.perm
  obtain ⟨p, q, c⟩ := h.rest.two hs ha
  refine ⟨ptrans h.perm (pmono g.1 (by omega) ha (by omega)), ?_, ?_⟩
  · exact Frt.more (h.done.same (Nat.le_refl _) fun x y hy p => Good.same p fun i _ hi => pout g.1 (Or.inl (by omega))) (Good.mgd p q (by omega) (by omega) (by omega) g)
  · exact c.same (Nat.le_refl _) fun x y hx _ p => Good.same p fun i hi _ => pout g.1 (Or.inr (by omega))
theorem St3.mrg2 {n s a : Nat} {d d' : Array α} (h : St3 tt pl n s a d d') (h1 : a + s < n) (h2 : n < a + 2 * s) (hn : n ≤ d.size) : Mrg tt pl a (a + s) n d' := by
  have e := psize h.perm
  obtain ⟨p, q⟩ := h.rest.last h1 h2
  exact Good.mrg p q (by omega) (by omega) (by omega)
theorem St3.last {n s a : Nat} {d d' d2 : Array α} (h : St3 tt pl n s a d d') (h1 : a + s < n) (h2 : n < a + 2 * s) (hn : n ≤ d.size) (g : Mgd tt a n d' d2) : St2 tt pl n (2 * s) d d2 := by
  have e := psize h.perm
  obtain ⟨p, q⟩ := h.rest.last h1 h2
  refine ⟨ptrans h.perm (pmono g.1 (by omega) (Nat.le_refl _) (by omega)), ?_⟩
  have f := h.done.same (Nat.le_refl _) (Q := Gd tt pl d2) fun x y hy p => Good.same p fun i _ hi => pout g.1 (Or.inl (by omega))
  exact f.all (by omega) (by omega) (Chn.more (by omega) (by rw [Nat.min_eq_right (by omega)]; exact Good.mgd p q (by omega) (by omega) (by omega) g) (Chn.none (by omega)))
theorem St3.none {n s a : Nat} {d d' : Array α} (h : St3 tt pl n s a d d') (hs : 0 < s) (ha : a ≤ n) (h2 : n ≤ a + s) : St2 tt pl n (2 * s) d d' :=
  ⟨h.perm, h.done.all (by omega) ha (h.rest.one h2)⟩
theorem St2.done {n s : Nat} {d d' : Array α} (h : St2 tt pl n s d d') (hs : n ≤ s) : Mgd tt 0 n d d' := by
  refine ⟨h.perm, ?_⟩
  cases h.all with
  | none h => exact fun i j h1 h2 h3 => by omega
  | more h p c => rw [Nat.min_eq_right (by omega)] at p; exact p.1
end Go.Proofs.Ytkmoibikempieaa
