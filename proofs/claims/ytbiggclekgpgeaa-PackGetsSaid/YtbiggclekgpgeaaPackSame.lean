/- The contract of the document's answer of layer 6: two commands that are the same. -/
import Derived.Test.YtbiggclekgpgeaaPackRef4
namespace Go.Proofs.Ytbiggclekgpgeaa
open Go Go.RowKit
set_option linter.unusedVariables false

set_option maxRecDepth 100000 in
set_option maxHeartbeats 4000000 in
theorem refSame_any (k y l : Int) (a a' : Option Addr) (n n' c c' : Nat) (N : List Int) (w : World) (h : Elems w a n N) (h' : Elems w a' n' N) (hn : n ≤ 1000000) :
    Calls Try.prog 12 #[cmdV k y l (.slice a n c), cmdV k y l (.slice a' n' c')] w fun e w' => e = .returned (.bool true) ∧ Below w.heap.size w w' := by
  obtain rfl : n = n' := by have h1 := h.1; have h2 := h'.1; omega
  obtain ⟨W2, hW2⟩ : ∃ W2, W2 = (w.alloc (Obj.cells #[.int .i64 k, .int .i64 y, .int .i64 l, .slice a n c] 24)).alloc (Obj.cells #[.int .i64 k, .int .i64 y, .int .i64 l, .slice a' n c'] 24) := ⟨_, rfl⟩
  have hb0 : Below w.heap.size w W2 := by rw [hW2]; exact ((Below.refl _ _).alloc (Nat.le_refl _) _).alloc (by simp) _
  have hA : CmdAt w.heap.size k y l (.slice a n c) W2 := by rw [hW2]; exact (CmdAt.new w k y l _).call ((Below.refl _ _).alloc (Nat.le_refl _) _)
  have hB : CmdAt (w.heap.size + 1) k y l (.slice a' n c') W2 := by
    have := CmdAt.new (w.alloc (Obj.cells #[.int .i64 k, .int .i64 y, .int .i64 l, .slice a n c] 24)) k y l (.slice a' n c')
    rw [World.size_alloc] at this
    rw [hW2]; exact this
  have HA := Lib.hid hA
  have HB := Lib.hid hB
  have HE : Hid (∀ W, Below w.heap.size w W → Elems W a n N ∧ Elems W a' n N) := fun W hW => ⟨h.upB hW, h'.upB hW⟩
  have HB0 := Lib.hid hb0
  have t1 : (k != k) = false := by simp
  have t2 : (y != y) = false := by simp
  have t3 : (l != l) = false := by simp
  have t4 : ((n : Int) != (n : Int)) = false := by simp
  clear h h' hA hB hb0
  go_enter Try.func12, Try.ntmps12
  obtain ⟨p0, p1, p2, p3, -, -⟩ := HA.out
  obtain ⟨q0, q1, q2, q3, -, -⟩ := HB.out
  go_wp2_with fail
  rw [← hW2]
  clear hW2
  go_loopw [5] (fun i wr => ∃ (j q : Nat), j ≤ n ∧ i = .int .i64 (j : Int) ∧ wr = W2.drewN q) (fun i _ => n - (RowKit.intOf i).toNat)
  case atStart => exact ⟨0, 0, by omega, rfl, rfl⟩
  case round =>
    obtain ⟨j, q, hj, rfl, rfl⟩ := hrel
    by_cases hlt : j < n
    · obtain ⟨b, off, rfl, hc, -⟩ := (HE.out _ HB0.out).1.get hlt
      obtain ⟨b', off', rfl, hc', -⟩ := (HE.out _ HB0.out).2.get hlt
      obtain ⟨x, hx⟩ : ∃ x, N.getD j 0 = x := ⟨_, rfl⟩
      rw [hx] at hc hc'
      have t5 : (x != x) = false := by simp
      have t6 : (j : Int) < (n : Int) := by omega
      have t7 : (0 : Int) ≤ (j : Int) := by omega
      clear hx
      go_wp2_with fail
      go_quiet (fail)
      go_wp2_with fail
      go_roundw
      case rel => exact ⟨j + 1, _, by omega, by go_num, by first | rfl | exact World.drewN_drewN _ _ _⟩
      case measure => simp [RowKit.intOf]; omega
    · obtain rfl : j = n := by omega
      go_wp2_with fail
      go_ret
      exact ⟨rfl, below_drewN HB0.out _⟩
end Go.Proofs.Ytbiggclekgpgeaa
