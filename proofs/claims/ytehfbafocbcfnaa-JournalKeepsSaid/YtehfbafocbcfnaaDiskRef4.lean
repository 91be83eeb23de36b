/- The contract of the document's answer of layer 7: a new model. -/
import Derived.Test.YtehfbafocbcfnaaDiskRef3
import Derived.Deep.OwnRows
namespace Go.Proofs.Ytehfbafocbcfnaa
open Go Go.RowKit
set_option linter.unusedVariables false

theorem info_bool : (Try.prog.info? 4).map (fun i => (i.zero, i.size, i.bytes)) = some (some (.bool false), 1, 1) := by kernel_rfl

theorem made_rep (z : Value) (n : Nat) : madeCells #[z] n = (List.replicate n z).toArray := by
  refine Array.ext ?_ fun i h1 h2 => ?_
  · simp [size_madeCells]
  · simp [madeCells, Nat.mod_one]

theorem build_model (a b c : Option Addr) (n : Nat) (w : World) : (Instr.build 51 #[(0, .slice a (64 * n) (64 * n)), (1, .slice b (64 * n) (64 * n)), (2, .slice c n n)]).run Try.prog w = .ok (.agg #[.slice a (64 * n) (64 * n), .slice b (64 * n) (64 * n), .slice c n n]) w := run_build w 51 _ _ (by kernel_rfl)

theorem rows3 {w W : World} {A1 A2 A3 A0 : Array Value} {e1 e2 e3 e0 : TypeId} (hW : W = ((((w.alloc (Obj.cells A1 e1)).alloc (Obj.cells A2 e2)).alloc (Obj.cells A3 e3)).alloc (Obj.cells A0 e0)).drew) :
    Row w.heap.size e1 A1.toList W ∧ Row (w.heap.size + 1) e2 A2.toList W ∧ Row (w.heap.size + 1 + 1) e3 A3.toList W ∧ Row (w.heap.size + 1 + 1 + 1) e0 A0.toList W ∧ Below w.heap.size w W := by
  subst hW
  have r1 := Row.new w A1.toList e1
  have r2 := Row.new (w.alloc (Obj.cells A1 e1)) A2.toList e2
  have r3 := Row.new ((w.alloc (Obj.cells A1 e1)).alloc (Obj.cells A2 e2)) A3.toList e3
  have r4 := Row.new (((w.alloc (Obj.cells A1 e1)).alloc (Obj.cells A2 e2)).alloc (Obj.cells A3 e3)) A0.toList e0
  simp only [World.size_alloc, Array.toArray_toList] at r1 r2 r3 r4
  refine ⟨(((r1.alloc _).alloc _).alloc _).drewN 1, ((r2.alloc _).alloc _).drewN 1, (r3.alloc _).drewN 1, r4.drewN 1, ?_⟩
  exact Below.drew (((((Below.refl _ _).alloc (Nat.le_refl _) _).alloc (by simp) _).alloc (by simp; omega) _).alloc (by simp; omega) _)

theorem new_fin {n : Nat} {w W : World} {g0 g1 g2 g3 : Nat} (hn : n ≤ 1024) (hd : (g0 ≠ g1 ∧ g0 ≠ g2 ∧ g0 ≠ g3 ∧ g1 ≠ g2 ∧ g1 ≠ g3 ∧ g2 ≠ g3) ∧ w.heap.size ≤ g0 ∧ w.heap.size ≤ g1 ∧ w.heap.size ≤ g2 ∧ w.heap.size ≤ g3) (hB : Below w.heap.size w W)
    (R0 : Row g0 51 (#[Value.slice (some ⟨g1, 0, none⟩) (64 * n) (64 * n), .slice (some ⟨g2, 0, none⟩) (64 * n) (64 * n), .slice (some ⟨g3, 0, none⟩) n n] : Array Value).toList W)
    (R1 : Row g1 5 (Array.replicate (64 * n) (Value.int .u8 0)).toList W) (R2 : Row g2 5 (Array.replicate (64 * n) (Value.int .u8 0)).toList W) (R3 : Row g3 4 (Array.replicate n (Value.bool false)).toList W) :
    MAt n ⟨g0, g1, g2, g3⟩ (Dsk.zero n) W ∧ (∀ k, Lies.all ⟨g0, g1, g2, g3⟩ k → w.heap.size ≤ k) ∧ Below w.heap.size w W := by
  have e1 : (Array.replicate (64 * n) (Value.int .u8 0)).toList = (List.replicate (64 * n) 0).map b8 := by simp [b8]
  have e3 : (Array.replicate n (Value.bool false)).toList = (List.replicate n false).map Value.bool := by simp
  rw [e1] at R1 R2
  rw [e3] at R3
  refine ⟨⟨by simp [Dsk.zero, hn], R0, R1, R2, R3, hd.1⟩, ?_, hB⟩
  rintro k (rfl | rfl | rfl | rfl)
  · exact hd.2.1
  · exact hd.2.2.1
  · exact hd.2.2.2.1
  · exact hd.2.2.2.2

set_option maxHeartbeats 8000000 in
theorem refNew7_any (n : Nat) (hn : n ≤ 1024) (w : World) :
    Calls Try.prog 18 #[.int .i64 (n : Int)] w fun e w' => ∃ G : Lies, e = .returned (.pointer (some ⟨G.g0, 0, none⟩)) ∧ MAt n G (Dsk.zero n) w' ∧ (∀ k, G.all k → w.heap.size ≤ k) ∧ Below w.heap.size w w' := by
  have t8 : IntKind.i64.wrap ((n : Int) * 64) = (n : Int) * 64 := IntWalk.i64_in _ (by omega)
  have hm1 := run_make_row' (P := Try.prog) 27 5 (.int .u8 0) 1 Try.underlying27 info_u8 rfl .i64 .i64 (64 * n) (by omega) (by omega)
  have hm2 := run_make_row' (P := Try.prog) 49 4 (.bool false) 1 Try.underlying49 info_bool rfl .i64 .i64 n (by omega) (by omega)
  rw [show ((64 * n : Nat) : Int) = (n : Int) * 64 by omega] at hm1
  have hb := build_model
  simp only [made_rep] at hm1 hm2
  go_enter Try.func18, Try.ntmps18
  go_wp2_with fail
  go_region
  all_goals
    go_wp2_with fail
    go_ret
    first
      | exact ⟨⟨_, _, _, _⟩, rfl, new_fin hn (by omega) (rows3 rfl).2.2.2.2 (rows3 rfl).2.2.2.1 (rows3 rfl).1 (rows3 rfl).2.1 (rows3 rfl).2.2.1⟩
      | exact ⟨⟨_, _, _, _⟩, rfl, new_fin hn (by omega) (rows3 rfl).2.2.2.2 (rows3 rfl).2.2.2.1 (rows3 rfl).1 (rows3 rfl).2.2.1 (rows3 rfl).2.1⟩
      | exact ⟨⟨_, _, _, _⟩, rfl, new_fin hn (by omega) (rows3 rfl).2.2.2.2 (rows3 rfl).2.2.2.1 (rows3 rfl).2.1 (rows3 rfl).1 (rows3 rfl).2.2.1⟩
      | exact ⟨⟨_, _, _, _⟩, rfl, new_fin hn (by omega) (rows3 rfl).2.2.2.2 (rows3 rfl).2.2.2.1 (rows3 rfl).2.1 (rows3 rfl).2.2.1 (rows3 rfl).1⟩
      | exact ⟨⟨_, _, _, _⟩, rfl, new_fin hn (by omega) (rows3 rfl).2.2.2.2 (rows3 rfl).2.2.2.1 (rows3 rfl).2.2.1 (rows3 rfl).1 (rows3 rfl).2.1⟩
      | exact ⟨⟨_, _, _, _⟩, rfl, new_fin hn (by omega) (rows3 rfl).2.2.2.2 (rows3 rfl).2.2.2.1 (rows3 rfl).2.2.1 (rows3 rfl).2.1 (rows3 rfl).1⟩
end Go.Proofs.Ytehfbafocbcfnaa
