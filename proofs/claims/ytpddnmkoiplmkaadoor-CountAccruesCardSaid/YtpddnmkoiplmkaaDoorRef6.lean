/- The long numbers' floor (trivetref01.floor): variables, and what a bit more comes to. -/
import Derived.Test.YtpddnmkoiplmkaaDoorRef5
namespace Go.Proofs.YtpddnmkoiplmkaaDoor
open Go Go.RowKit
set_option linter.unusedVariables false

/-- what is told at a return, kept from the walk's own try at it (a result that lies in memory costs that try half a minute) -/
def Held (P : Program) (fn : Func) (R : Ending → World → Prop) (e : Exit) (a : Act) (w : World) : Prop := bodyPost P fn R e a w

theorem held_ret {P : Program} {fn : Func} {R : Ending → World → Prop} {a : Act} {w : World} {v : Value}
    (hr : (Go.results fn a.tmps).run P w = .ok v w) (hd : a.defers = []) (hR : R (.returned v) w) : Held P fn R .ret a w := bodyPost_ret hr hd hR

theorem NumVar.new {w : World} {n : Int} {a : Option Addr} {len cap : Nat} {m : Bool} (t : TypeId) (h : NumAt w (.agg #[.slice a len cap, .bool m]) n) :
    NumVar (w.alloc (Obj.cells #[.slice a len cap, .bool m] t)) w.heap.size n a len cap m :=
  ⟨by simp, by simp, by simp, by simp, h.up ((Below.refl _ _).alloc (Nat.le_refl _) _), fun o ho => new_none w ho⟩

theorem zero_num (w : World) : NumAt w (.agg #[.slice none 0 0, .bool false]) 0 := ⟨none, 0, 0, [], rfl, ⟨rfl, Or.inl rfl⟩, nil_none, Nat.le_refl _, canon_nil, rfl⟩

/-- digits lie elsewhere than a variable -/
theorem NumVar.farC {w : World} {N : Nat} {n : Int} {a a' : Option Addr} {len cap len' : Nat} {m : Bool} {ds : List Nat} (h : NumVar w N n a len cap m) (hc : Cells w a' len' (ds.map d64)) :
    ∀ x, a' = some x → len' = 0 ∨ x.block ≠ N := by
  intro x hx
  by_cases h0 : len' = 0
  · exact Or.inl h0
  · right
    obtain ⟨b, off, rfl, hcell⟩ := hc.digit (i := 0) (by omega)
    cases hx
    intro e
    have e' : b = N := e
    subst e'
    rw [Nat.add_zero] at hcell
    have h3 : off = 0 ∨ off = 1 ∨ 2 ≤ off := by omega
    rcases h3 with rfl | rfl | h3
    · rw [h.c0] at hcell; cases hcell
    · rw [h.c1] at hcell; cases hcell
    · rw [h.sz off h3] at hcell; cases hcell

/-- stored into another variable -/
theorem NumVar.other {w : World} {N N' : Nat} {n n' : Int} {a a' : Option Addr} {len cap len' cap' : Nat} {m m' : Bool} (h : NumVar w N n a len cap m) (h' : NumVar w N' n' a' len' cap' m') (hne : N ≠ N') (u v : Value) :
    NumVar ((w.setCell ⟨N', 0, none⟩ u).setCell ⟨N', 1, none⟩ v) N n a len cap m := by
  have hblk := h'.far h.num
  have h0 := h.c0
  have h1 := h.c1
  have hf0 := h.f0
  have hf1 := h.f1
  have hsz := h.sz
  obtain ⟨a2, l2, c2, ds, he, hc, hrest⟩ := h.num
  simp only [Value.agg.injEq, Array.mk.injEq, List.cons.injEq, Value.slice.injEq, Value.bool.injEq, and_true] at he
  obtain ⟨⟨rfl, rfl, rfl⟩, rfl⟩ := he
  exact ⟨by rw [two_far hne]; exact h0, by rw [two_far hne]; exact h1, by rw [World.frozen?_setCell, World.frozen?_setCell]; exact hf0, by rw [World.frozen?_setCell, World.frozen?_setCell]; exact hf1,
    ⟨a, len, cap, ds, rfl, cells_two hc hblk _ _, hrest⟩, fun o ho => by rw [two_far hne]; exact hsz o ho⟩

/-- the variables of floor -/
structure FV (W : World) (B T : Nat) (n c r : Int) (a1 : Option Addr) (l1 k1 : Nat) (m1 : Bool) (a2 : Option Addr) (l2 k2 : Nat) (m2 : Bool) (a3 : Option Addr) (l3 k3 : Nat) (m3 : Bool) (a4 : Option Addr) (l4 k4 : Nat) (m4 : Bool) : Prop where
  v1 : NumVar W B n a1 l1 k1 m1
  v2 : NumVar W (B + 1) c a2 l2 k2 m2
  vr : NumVar W (B + 1 + 1) 0 none 0 0 false
  v3 : NumVar W (B + 1 + 1 + 1) r a3 l3 k3 m3
  v4 : NumVar W T 2 a4 l4 k4 m4
  t : B + 1 + 1 + 1 < T

variable {W W' : World} {B T : Nat} {n c r r' : Int} {a1 a2 a3 a4 a5 : Option Addr} {l1 k1 l2 k2 l3 k3 l4 k4 l5 k5 : Nat} {m1 m2 m3 m4 m5 : Bool}

theorem FV.up (h : FV W B T n c r a1 l1 k1 m1 a2 l2 k2 m2 a3 l3 k3 m3 a4 l4 k4 m4) (hb : Below W.heap.size W W') : FV W' B T n c r a1 l1 k1 m1 a2 l2 k2 m2 a3 l3 k3 m3 a4 l4 k4 m4 :=
  ⟨h.v1.up hb, h.v2.up hb, h.vr.up hb, h.v3.up hb, h.v4.up hb, h.t⟩

theorem FV.put (h : FV W B T n c r a1 l1 k1 m1 a2 l2 k2 m2 a3 l3 k3 m3 a4 l4 k4 m4) (hn : NumAt W (.agg #[.slice a5 l5 k5, .bool m5]) r') :
    FV ((W.setCell ⟨B + 1 + 1 + 1, 0, none⟩ (.slice a5 l5 k5)).setCell ⟨B + 1 + 1 + 1, 1, none⟩ (.bool m5)) B T n c r' a1 l1 k1 m1 a2 l2 k2 m2 a5 l5 k5 m5 a4 l4 k4 m4 :=
  ⟨h.v1.other h.v3 (by omega) _ _, h.v2.other h.v3 (by omega) _ _, h.vr.other h.v3 (by omega) _ _, h.v3.put hn, h.v4.other h.v3 (by have := h.t; omega) _ _, h.t⟩

theorem FV.keep (h : FV W B T n c r a1 l1 k1 m1 a2 l2 k2 m2 a3 l3 k3 m3 a4 l4 k4 m4) {a : Option Addr} {len : Nat} {ds : List Nat} (hc : Cells W a len (ds.map d64)) (u v : Value) :
    Cells ((W.setCell ⟨B + 1 + 1 + 1, 0, none⟩ u).setCell ⟨B + 1 + 1 + 1, 1, none⟩ v) a len (ds.map d64) := cells_two hc (h.v3.farC hc) u v

/-! ### the numbers -/

theorem fl_step (C M b : Nat) (hC : 0 < C) :
    (2 * (M % C) + b < C → (2 * M + b) / C = 2 * (M / C) ∧ (2 * M + b) % C = 2 * (M % C) + b) ∧
    (b ≤ 1 → ¬ 2 * (M % C) + b < C → (2 * M + b) / C = 2 * (M / C) + 1 ∧ (2 * M + b) % C = 2 * (M % C) + b - C) := by
  have h1 := Nat.div_add_mod M C
  have h2 := Nat.mod_lt M hC
  obtain ⟨Q, hQ⟩ : ∃ Q, M / C = Q := ⟨_, rfl⟩
  obtain ⟨R, hR⟩ : ∃ R, M % C = R := ⟨_, rfl⟩
  rw [hQ, hR] at h1
  rw [hR] at h2
  rw [hQ, hR]
  have e : 2 * M + b = C * (2 * Q) + (2 * R + b) := by
    rw [← h1]
    have : C * (2 * Q) = 2 * (C * Q) := by rw [Nat.mul_left_comm]
    omega
  rw [e]
  constructor
  · intro h
    rw [Nat.mul_add_div hC, Nat.mul_add_mod, Nat.div_eq_of_lt h, Nat.mod_eq_of_lt h]
    simp
  · intro hb h
    have e2 : C * (2 * Q) + (2 * R + b) = C * (2 * Q + 1) + (2 * R + b - C) := by rw [Nat.mul_add]; omega
    have h3 : 2 * R + b - C < C := by omega
    rw [e2, Nat.mul_add_div hC, Nat.mul_add_mod, Nat.div_eq_of_lt h3, Nat.mod_eq_of_lt h3]
    simp

theorem half_more (N j : Nat) : N / 2 ^ j = 2 * (N / 2 ^ (j + 1)) + N / 2 ^ j % 2 := by
  rw [Nat.pow_succ, ← Nat.div_div_eq_div_mul]
  omega

theorem val_bit (ds : List Nat) (h : Digits ds) (j : Nat) : val ds / 2 ^ j % 2 = ds.getD (j / 16) 0 / 2 ^ (j % 16) % 2 := by
  induction ds generalizing j with
  | nil => simp [val]
  | cons d ds ih =>
    have hd : d < 65536 := h d (by simp)
    have ih' := ih (fun x hx => h x (by simp [hx]))
    show (d + 65536 * val ds) / 2 ^ j % 2 = _
    by_cases hj : j < 16
    · have e0 : j / 16 = 0 := by omega
      have e1 : j % 16 = j := by omega
      rw [e0, e1]
      show (d + 65536 * val ds) / 2 ^ j % 2 = d / 2 ^ j % 2
      obtain ⟨i, rfl⟩ : ∃ i, j = 15 - i := ⟨15 - j, by omega⟩
      have e2 : (65536 : Nat) = 2 ^ (15 - i) * (2 ^ (15 - (15 - i)) * 2) := by
        rw [← Nat.mul_assoc, ← Nat.pow_add, ← Nat.pow_succ]
        have : 15 - i + (15 - (15 - i)) + 1 = 16 := by omega
        show 65536 = 2 ^ (15 - i + (15 - (15 - i)) + 1)
        rw [this]
      rw [e2, Nat.mul_assoc, Nat.add_mul_div_left _ _ (Nat.pow_pos (by omega)), Nat.mul_assoc, Nat.mul_left_comm]
      omega
    · obtain ⟨i, rfl⟩ : ∃ i, j = 16 + i := ⟨j - 16, by omega⟩
      have e0 : (16 + i) / 16 = i / 16 + 1 := by omega
      have e1 : (16 + i) % 16 = i % 16 := by omega
      rw [e0, e1, Nat.pow_add, ← Nat.div_div_eq_div_mul]
      have e2 : (d + 65536 * val ds) / 2 ^ 16 = val ds := by
        show (d + 65536 * val ds) / 65536 = _
        omega
      rw [e2]
      simpa using ih' i

/-- below 0 -/
theorem div_neg (N C : Nat) (hC : 0 < C) : (-(N : Int)) / (C : Int) = if N % C = 0 then -((N / C : Nat) : Int) else -((N / C : Nat) : Int) + -1 := by
  have h1 := Nat.div_add_mod N C
  have h2 := Nat.mod_lt N hC
  obtain ⟨Q, hQ⟩ : ∃ Q, N / C = Q := ⟨_, rfl⟩
  obtain ⟨R, hR⟩ : ∃ R, N % C = R := ⟨_, rfl⟩
  rw [hQ, hR] at h1
  rw [hR] at h2
  rw [hQ, hR]
  have hN : (N : Int) = (C : Int) * (Q : Int) + (R : Int) := by rw [← h1]; simp
  have hC' : (0 : Int) < (C : Int) := by omega
  split
  · rename_i h0
    subst h0
    rw [hN]
    have : -((C : Int) * (Q : Int) + ((0 : Nat) : Int)) = (C : Int) * (-(Q : Int)) := by simp [Int.mul_neg]
    rw [this, Int.mul_ediv_cancel_left _ (by omega)]
  · rw [hN]
    have : -((C : Int) * (Q : Int) + (R : Int)) = ((C : Int) - (R : Int)) + (C : Int) * (-(Q : Int) + -1) := by
      rw [Int.mul_add, Int.mul_neg]; omega
    rw [this, Int.add_mul_ediv_left _ _ (by omega), Int.ediv_eq_zero_of_lt (by omega) (by omega)]
    omega
end Go.Proofs.YtpddnmkoiplmkaaDoor
