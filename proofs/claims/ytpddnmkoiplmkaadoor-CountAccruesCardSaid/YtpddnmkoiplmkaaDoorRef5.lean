/- The contracts of the long numbers' comparison (trivetref01.Cmp). -/
import Derived.Test.YtpddnmkoiplmkaaDoorRef4
import Derived.Test.YtpddnmkoiplmkaaDoorNumVar
namespace Go.Proofs.YtpddnmkoiplmkaaDoor
open Go Go.RowKit
set_option linter.unusedVariables false

/-- as x is against y -/
def cmpI (x y : Int) : Int := if x = y then 0 else if x < y then -1 else 1

def CmpTo (w : World) (r : Int) (e : Ending) (w' : World) : Prop := e = .returned (.int .i64 r) ∧ Below w.heap.size w w'

theorem hold {w w1 : World} (h : Below w.heap.size w w1) {a : Addr} {v : Value} (hc : w.cell? a = some v) : w1.cell? a = some v := old_cell h hc (cell_lt hc)

theorem hold_alloc {w : World} (o : Obj) {a : Addr} {v : Value} (hc : w.cell? a = some v) : (w.alloc o).cell? a = some v := hold ((Below.refl _ w).alloc (Nat.le_refl _) o) hc

theorem num_len {w : World} {a : Option Addr} {l c : Nat} {ds : List Nat} {n : Int} (h : Cells w a l (ds.map d64) ∧ NilOk a c ∧ l ≤ c ∧ Canon ds ∧ val ds = n.natAbs) :
    (n = 0 → l = 0) ∧ (n ≠ 0 → ¬ (l : Int) = 0) := by
  obtain ⟨⟨hl, _⟩, _, _, hcan, hv⟩ := h
  rw [List.length_map] at hl
  constructor
  · intro e
    subst e
    have := canon_zero hcan (by simpa using hv)
    subst this
    simpa using hl.symm
  · intro e h0
    have : ds = [] := List.eq_nil_of_length_eq_zero (by omega)
    subst this
    simp [val] at hv
    omega

set_option maxHeartbeats 8000000 in
theorem cmp_any (u v : Value) (x y : Int) (w : World) (hu : NumAt w u x) (hv : NumAt w v y) (sx : Small x) (sy : Small y) (sd : Small (x + -y)) :
    Calls Tryd.prog 28 #[u, v] w (CmpTo w (cmpI x y)) := by
  obtain ⟨a1, l1, c1, d1, rfl, R1⟩ := hu
  obtain ⟨a2, l2, c2, d2, rfl, R2⟩ := hv
  obtain ⟨m1, hm1⟩ : ∃ m, decide (x < 0) = m := ⟨_, rfl⟩
  obtain ⟨m2, hm2⟩ : ∃ m, decide (y < 0) = m := ⟨_, rfl⟩
  have NX : Hid (∀ W, Below w.heap.size w W → NumAt W (.agg #[.slice a1 l1 c1, .bool m1]) x) := fun W hW => by rw [← hm1]; exact NumAt.up ⟨a1, l1, c1, d1, rfl, R1⟩ hW
  have NY : Hid (∀ W, Below w.heap.size w W → NumAt W (.agg #[.slice a2 l2 c2, .bool m2]) y) := fun W hW => by rw [← hm2]; exact NumAt.up ⟨a2, l2, c2, d2, rfl, R2⟩ hW
  rw [hm1, hm2]
  have SX := Lib.hid sx
  have SY := Lib.hid sy
  have SN : Hid (Small (-y)) := Small.of_le (by omega) sy
  have SD := Lib.hid sd
  obtain ⟨r, hr⟩ : ∃ r, cmpI x y = r := ⟨_, rfl⟩
  rw [hr]
  have HQ := Lib.hid hr
  clear R1 R2 hm1 hm2 sx sy sd hr
  go_enter Tryd.func28, Tryd.ntmps28
  go_wp2_with fail
  go_region_law (first
    | (go_simp; go_at_call 25; refine (neg_any (.agg #[.slice a2 l2 c2, .bool m2]) y _ (NY.out _ (by go_grown)) SY.out).mono ?_; rintro e w1 ⟨u1, rfl, M1, P1⟩
       have B1 : Below w.heap.size w w1 := Below.trans (by go_grown) (P1.mono (by first | omega | (simp; done) | (simp; omega)))
       have s1 := B1.size
       have z1 := P1.size
       try simp at z1
       obtain ⟨hc1, hf1⟩ := bcell P1
       have p0 := hold P1 (a := ⟨w.heap.size, 0, none⟩) (v := .slice a1 l1 c1) (by first | exact hold (Below.refl _ _).drew (hold_alloc _ (hold_alloc _ (by simp))) | exact hold (Below.refl _ _).drew (hold_alloc _ (by simp)))
       have p1 := hold P1 (a := ⟨w.heap.size, 1, none⟩) (v := .bool m1) (by first | exact hold (Below.refl _ _).drew (hold_alloc _ (hold_alloc _ (by simp))) | exact hold (Below.refl _ _).drew (hold_alloc _ (by simp)))
       have p2 := fun o1 => hold_alloc o1 p0
       have p3 := fun o1 => hold_alloc o1 p1
       have M1' := Lib.hid M1
       clear M1)
    | (go_simp; go_at_call 27; refine (addN_any (.agg #[.slice a1 l1 c1, .bool m1]) u1 x (-y) _ (NX.out _ (by go_grown)) (M1'.out.up (by go_grown)) SX.out SN.out).mono ?_; rintro e w2 ⟨u2, rfl, M2, P2⟩
       obtain ⟨a4, l4, c4, d4, rfl, R4⟩ := M2
       obtain ⟨m4, hm4⟩ : ∃ m4, decide (x + -y < 0) = m4 := ⟨_, rfl⟩
       obtain ⟨hc, hf⟩ := bcell P2
       have B2 : Below w.heap.size w w2 := Below.trans (by go_grown) (P2.mono (by first | omega | (simp; done) | (simp; omega)))
       have s2 := B2.size
       have z2 := P2.size
       try simp at z2
       try (have q : w2.cell? ⟨w.heap.size + 1 + 1, 0, none⟩ = some (.slice none 0 0) ∧ w2.cell? ⟨w.heap.size + 1 + 1, 1, none⟩ = some (.bool false) ∧ w2.frozen? ⟨w.heap.size + 1 + 1, 0, none⟩ = false ∧ w2.frozen? ⟨w.heap.size + 1 + 1, 1, none⟩ = false := by
              have := num_cell (w := (w.alloc (Obj.cells #[.slice a1 l1 c1, .bool m1] 37)).alloc (Obj.cells #[.slice a2 l2 c2, .bool m2] 37)) (((Below.refl _ _).drew.trans (P1.mono (by simp))).trans (P2.mono (by simp; omega)))
              simpa only [World.size_alloc] using this
            obtain ⟨q0, q1, q2, q3⟩ := q)
       try (have q : w2.cell? ⟨w1.heap.size, 0, none⟩ = some (.slice none 0 0) ∧ w2.cell? ⟨w1.heap.size, 1, none⟩ = some (.bool false) ∧ w2.frozen? ⟨w1.heap.size, 0, none⟩ = false ∧ w2.frozen? ⟨w1.heap.size, 1, none⟩ = false := num_cell (w := w1) (P2.mono (by simp))
            obtain ⟨q0, q1, q2, q3⟩ := q)
       rw [hm4]
       have HR := Lib.hid R4
       have HM := Lib.hid hm4
       clear R4 hm4))
  all_goals
    obtain ⟨L0, L1⟩ := num_len HR.out
    have HM1 := HM.out
    by_cases e0 : x = y
    · have z := L0 (by omega)
      subst z
      have ec : r = 0 := by rw [← HQ.out]; simp [cmpI, e0]
      subst ec
      clear e0
      go_wp2_with fail
      go_ret
      exact ⟨rfl, by go_grown⟩
    · have i0 := L1 (by omega)
      by_cases e1 : x < y
      · have ec : r = -1 := by rw [← HQ.out]; simp [cmpI, e0, e1]
        subst ec
        have em : m4 = true := by rw [← HM1]; simp; omega
        subst em
        clear e0 e1
        go_wp2_with fail
        go_ret
        exact ⟨rfl, by go_grown⟩
      · have ec : r = 1 := by rw [← HQ.out]; simp [cmpI, e0, e1]
        subst ec
        have em : m4 = false := by rw [← HM1]; simp; omega
        subst em
        clear e0 e1
        go_wp2_with fail
        go_ret
        exact ⟨rfl, by go_grown⟩
end Go.Proofs.YtpddnmkoiplmkaaDoor
