/- A new disk. -/
import Derived.Test.YtehfbafocbcfnaaDskAt
import Derived.Test.YtehfbafocbcfnaaDiskRef4
import Derived.Deep.OwnRows
namespace Go.Proofs.Ytehfbafocbcfnaa
open Go Go.RowKit Go.Maps
set_option linter.unusedVariables false

theorem build_disk (a : Option Addr) (b : Option Nat) (n : Nat) (w : World) : (Instr.build 73 #[(0, .slice a n n), (1, .map b)]).run Try.prog w = .ok (.agg #[.slice a n n, .map b]) w := run_build w 73 _ _ (by kernel_rfl)

theorem new_at {n : Nat} {w : World} (h1 : 1 ≤ n) (hn : n ≤ 1024) (w1 : World) (hw : w1 = ((w.alloc (Obj.cells (Array.replicate (64 * n) (Value.int .u8 0)) 5)).alloc (Obj.map #[] 0)).alloc (Obj.cells #[.slice (some ⟨w.heap.size, 0, none⟩) (64 * n) (64 * n), .map (some (w.heap.size + 1))] 73)) :
    Below w.heap.size w w1 ∧ DAt n (w.heap.size + 1 + 1) w.heap.size (w.heap.size + 1) (Dsk.zero n) w1 := by
  subst hw
  have r1 := Row.new w (Array.replicate (64 * n) (Value.int .u8 0)).toList 5
  have e1 : (Array.replicate (64 * n) (Value.int .u8 0)).toList = (List.replicate (64 * n) 0).map b8 := by simp [b8]
  have r2 := World.ownsMap_made (w.alloc (Obj.cells (Array.replicate (64 * n) (Value.int .u8 0)) 5)) Try.prog 3 RB
  have r3 := Row.new ((w.alloc (Obj.cells (Array.replicate (64 * n) (Value.int .u8 0)) 5)).alloc (Obj.map #[] 0)) [.slice (some ⟨w.heap.size, 0, none⟩) (64 * n) (64 * n), .map (some (w.heap.size + 1))] 73
  simp only [World.size_alloc, Array.toArray_toList] at r1 r2 r3
  refine ⟨(((Below.refl _ _).alloc (Nat.le_refl _) _).alloc (by simp) _).alloc (by simp; omega) _, ⟨r3, ?_, ⟨0, _, r2.alloc _, MapIs.none n _ _ fun b hb => by simp [Dsk.zero, List.getD_eq_getElem?_getD, List.getElem?_replicate]; split <;> simp⟩, by omega, by simp [Dsk.zero, hn], Clean.same⟩⟩
  rw [e1] at r1
  have := (r1.alloc (Obj.map #[] 0)).alloc (Obj.cells #[.slice (some ⟨w.heap.size, 0, none⟩) (64 * n) (64 * n), .map (some (w.heap.size + 1))] 73)
  exact this

set_option maxHeartbeats 8000000 in
theorem new_any (b : Int) (w : World) (hb : i64d b) : Calls Try.prog 14 #[.int .i64 b] w fun e w' => Below w.heap.size w w' ∧
    ((1 ≤ b ∧ b ≤ 1024 ∧ ∃ d F, e = .returned (.tuple #[.pointer (some d), .nilIface]) ∧ DD b.toNat F d (Dsk.zero b.toNat) w' ∧ ∀ k, F k → w.heap.size ≤ k) ∨
      ((b < 1 ∨ 1024 < b) ∧ e = .returned (.tuple #[.pointer none, errD 1]))) := by
  obtain ⟨hb1, hb2⟩ := hb
  by_cases h1 : 1 ≤ b
  · by_cases h2 : b ≤ 1024
    · obtain ⟨n, rfl⟩ : ∃ n : Nat, b = (n : Int) := ⟨b.toNat, by omega⟩
      have t8 : IntKind.i64.wrap ((n : Int) * 64) = (n : Int) * 64 := IntWalk.i64_in _ (by omega)
      have hm1 := run_make_row' (P := Try.prog) 27 5 (.int .u8 0) 1 Try.underlying27 info_u8 rfl .i64 .i64 (64 * n) (by omega) (by omega)
      rw [show ((64 * n : Nat) : Int) = (n : Int) * 64 by omega] at hm1
      have hbd := build_disk
      simp only [made_rep] at hm1
      have hmm := @run_makeMap Try.prog
      go_enter Try.func14, Try.ntmps14
      go_wp2_with fail
      go_ret2
      have hN := new_at (n := n) (w := w) (by omega) (by omega) _ rfl
      refine ⟨hN.1, Or.inl ?_⟩
      refine ⟨by omega, by omega, _, foot (w.heap.size + 1 + 1) w.heap.size (w.heap.size + 1), rfl, ⟨_, _, _, rfl, rfl, hN.2⟩, ?_⟩
      rintro k (rfl | rfl | rfl) <;> omega
    · go_enter Try.func14, Try.ntmps14
      go_wp2_with fail
      go_ret2
      exact ⟨Below.refl _ _, Or.inr rfl⟩
  · go_enter Try.func14, Try.ntmps14
    go_wp2_with fail
    go_ret2
    exact ⟨Below.refl _ _, Or.inr rfl⟩
end Go.Proofs.Ytehfbafocbcfnaa
