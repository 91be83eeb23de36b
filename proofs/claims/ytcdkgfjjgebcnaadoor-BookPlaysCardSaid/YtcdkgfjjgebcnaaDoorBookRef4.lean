/- The document's answers of layer 10: lines turned; what is posted. -/
import Derived.Test.YtcdkgfjjgebcnaaDoorBookRef3
import Derived.Deep.RegionLaw
namespace Go.Proofs.YtcdkgfjjgebcnaaDoor
open Go Go.RowKit
set_option linter.unusedVariables false

theorem build_ln3 (k o v : Int) (w : World) : (Instr.build 56 #[(0, .agg #[.int .i64 k, .int .i64 o]), (1, .int .i64 v)]).run Tryd.prog w = .ok (.agg #[.int .i64 k, .int .i64 o, .int .i64 v]) w := run_build w 56 _ _ (by kernel_rfl)
theorem one_line (w : World) (x : Ln) : LinesAt (w.alloc (Obj.cells #[.int .i64 x.k, .int .i64 x.o, .int .i64 x.v] 56)) (some ⟨w.heap.size, 0, none⟩) 1 [x] := by
  refine ⟨rfl, Or.inr ⟨_, 0, rfl, fun j y hj => ?_⟩⟩
  match j with
  | 0 => simp only [List.getElem?_cons_zero, Option.some.injEq] at hj; subst hj; exact ⟨by simp, by simp, by simp⟩
  | (j + 1) => simp at hj
theorem turn_take {l : List Ln} {j : Nat} {x : Ln} (h : l[j]? = some x) : turnL (l.take (j + 1)) = turnL (l.take j) ++ [⟨x.k, x.o, -x.v⟩] := by
  rw [List.take_add_one, h]
  simp [turnL]

set_option maxRecDepth 100000 in
set_option maxHeartbeats 4000000 in
theorem refTurned10_any (a : Option Addr) (n c : Nat) (ls : List Ln) (w : World) (hl : LinesAt w a n ls) (hn : n ≤ 1000) (hv : ∀ x ∈ ls, in64 x.v ∧ x.v ≠ -9223372036854775808) :
    Calls Tryd.prog 46 #[.slice a n c] w fun e w' => ∃ v, e = .returned v ∧ OwnsL w.heap.size v (turnL ls) w' ∧ Below w.heap.size w w' := by
  have rb := build_ln3
  have HL := Lib.hid (fun W (hW : Below w.heap.size w W) => hl.up hW)
  have HLN := Lib.hid hl.1
  have HV := Lib.hid hv
  clear hl hv
  go_enter Tryd.func46, Tryd.ntmps46
  go_wp2_with fail
  go_loopw [3, 4] (fun v i wr => ∃ j : Nat, i = .int .i64 (j : Int) ∧ j ≤ n ∧ Hid (OwnsL w.heap.size v (turnL (ls.take j)) wr) ∧ Hid (Below w.heap.size w wr)) (fun _ i _ => n - (RowKit.intOf i).toNat)
  case atStart => exact ⟨0, rfl, by omega, by rw [List.take_zero]; exact ownsL_nil _ _, Below.refl _ _⟩
  case round =>
    obtain ⟨j, rfl, hj, hown, hbel⟩ := hrel
    by_cases hlt : j < n
    · have u1 : (j : Int) < (n : Int) := by omega
      obtain ⟨g, o, x, rfl, hx, hxm, x0, x1, x2⟩ := (HL.out _ hbel.out).get hlt
      obtain ⟨hx64, hxn⟩ := HV.out x hxm
      have HTT := Lib.hid (turn_take hx)
      have e1 : IntKind.i64.wrap (-x.v) = -x.v := IntWalk.i64_in _ (by unfold in64 at hx64; omega)
      have e2 : IntKind.i64.wrap (0 - x.v) = -x.v := by rw [show (0 : Int) - x.v = -x.v by omega, e1]
      have hlen : (turnL (ls.take j)).length + 1 ≤ 1000000000 := by rw [turn_len, List.length_take]; omega
      have HLEN := Lib.hid hlen
      clear hx hxm hx64 hxn hlen
      go_wp2_with fail
      go_region_law (first
        | (refine step_append_ln rfl (.tmp 11) (.tmp 24) rfl w.heap.size _ (turnL (ls.take j)) (by simp [Act.eval]) ((ownsL_up hown.out ((Below.refl wr.heap.size wr).drew)).alloc _) _ 1 1 [⟨x.k, x.o, -x.v⟩] (by simp [Act.eval]) (fun h => by cases h) (one_line _ _) HLEN.out (Nat.le_trans hbel.out.size (by simp)) ?_
           intro v1 w1 o1 q1 r1 l1
           rw [← HTT.out] at o1
           have HO1 := Lib.hid o1
           have HB1 : Hid (Below w.heap.size w w1) := ((hbel.out.drew).alloc hbel.out.size _).grown q1 (Nat.le_trans hbel.out.size (by simp)) (fun k hk => hown.out.blk k hk)
           clear o1 q1 r1 l1))
      all_goals
        go_wp2_with fail
        go_roundw
        case rel => exact ⟨j + 1, by go_num, by omega, HO1, HB1⟩
        case measure => simp [RowKit.intOf]; omega
    · have hfull : turnL (ls.take j) = turnL ls := by rw [List.take_of_length_le (by rw [HLN.out]; omega)]
      rw [hfull] at hown
      clear hfull
      go_wp2_with fail
      go_ret
      exact ⟨_, rfl, hown.out, hbel.out⟩
end Go.Proofs.YtcdkgfjjgebcnaaDoor
