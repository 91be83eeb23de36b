/- A deed, done with a disk and with its model. -/
import Derived.Test.YtehfbafocbcfnaaDiskL2
namespace Go.Proofs.Ytehfbafocbcfnaa
open Go Go.RowKit
set_option linter.unusedVariables false

theorem pickD_lt (c : Int) (n : Nat) (h : 1 ≤ n) : pickD c n < n := by
  have h0 : (n : Int) ≠ 0 := by omega
  have h1 := Int.emod_nonneg (if c < 0 then -(c + 1) else c) h0
  have h2 := Int.emod_lt_of_pos (if c < 0 then -(c + 1) else c) (show 0 < (n : Int) by omega)
  unfold pickD
  omega

/-- a piece of a row of bytes -/
theorem slice_told {g N P M : Nat} {bs : List Nat} {W : World} (hR : Row g 5 (bs.map b8) W) (hl : bs.length = N) (hPM : P + M ≤ N) :
    ∃ a c, (∀ W', (Instr.slice 27 (.slice (some ⟨g, 0, none⟩) N N) (some (.int .i64 (P : Int))) (some (.int .i64 ((P : Int) + (M : Int)))) none).run Try.prog W' = .ok (.slice a M c) W') ∧ Cells W a M (((bs.drop P).take M).map b8) := by
  have hz : ∀ w, (Go.sizeOf 5).run Try.prog w = .ok 1 w := fun w => by first | exact Try.sizeOf5 w | exact Try.sizeOf5 | simp [Try.sizeOf5]
  have ht' : Try.prog.underlying 27 = some (.slice (Try.prog.elem 27)) := by simp [Program.elem, Try.underlying27]
  have he : Try.prog.elem 27 = 5 := by simp [Program.elem, Try.underlying27]
  have hcells : ∀ j, j < M → W.cell? ⟨g, P + j, none⟩ = some (b8 (((bs.drop P).take M).getD j 0)) := fun j hj => by
    rw [hR.byte (j := P + j) (by omega)]
    simp [List.getD, hj, b8]
  have hlen : (((bs.drop P).take M).map b8).length = M := by simp; omega
  have hget : ∀ j, j < M → (((bs.drop P).take M).map b8).getD j undef = b8 (((bs.drop P).take M).getD j 0) := fun j hj => by
    simp [List.getD, hj, show P + j < bs.length by omega]
  by_cases hc : N = P
  · obtain rfl : M = 0 := by omega
    refine ⟨some ⟨g, 0, none⟩, 0, fun W' => ?_, hlen, Or.inl rfl⟩
    rw [run_slice_lh W' 27 _ _ _ ht' .i64 .i64 _ _ (by omega) (by omega) (by omega), he, hz]
    simp [Result.andThen, sliced, hc]
  · refine ⟨some ⟨g, P, none⟩, N - P, fun W' => ?_, hlen, Or.inr ⟨g, P, rfl, fun j hj => by rw [hcells j hj, hget j hj]⟩⟩
    rw [run_slice_lh W' 27 _ _ _ ht' .i64 .i64 _ _ (by omega) (by omega) (by omega), he, hz]
    by_cases h0 : P = 0
    · subst h0
      simp [Result.andThen, sliced, Addr.add, hc]
    · simp [Result.andThen, sliced, Addr.add, hc, h0]
      try omega

end Go.Proofs.Ytehfbafocbcfnaa
