/- Lines held against one another; the document's answer Same. -/
import Derived.Test.YtcdkgfjjgebcnaaDoorBookC
import Derived.LaidEql
namespace Go.Proofs.YtcdkgfjjgebcnaaDoor
open Go Go.RowKit
set_option linter.unusedVariables false

theorem ln_eq_iff (x y : Ln) : (x.k == y.k && x.o == y.o && x.v == y.v) = decide (x = y) := by
  obtain ⟨a, b, c⟩ := x
  obtain ⟨a', b', c'⟩ := y
  simp only [Ln.mk.injEq]
  by_cases h1 : a = a' <;> by_cases h2 : b = b' <;> by_cases h3 : c = c' <;> simp [h1, h2, h3]

theorem run_neq_ln (w : World) (x y : Ln) : (binOp .neq 56 (.agg #[.int .i64 x.k, .int .i64 x.o, .int .i64 x.v]) (.agg #[.int .i64 y.k, .int .i64 y.o, .int .i64 y.v])).run Tryd.prog w = .ok (.bool (!decide (x = y))) w := by
  have u3 := Tryd.underlying3
  have a3 := Tryd.isAgg3
  have z3 := Tryd.sizeOf3
  have u2 := Tryd.underlying2
  have a2 := Tryd.isAgg2
  have z2 := Tryd.sizeOf2
  have hS : Tryd.prog.underlying 56 = some (.struct (Tryd.prog.fieldsOf 56)) := by kernel_rfl
  have hp : Tryd.prog.stoodInHeld 56 = false := by kernel_rfl
  rw [run_neq_struct, show (10000 : Nat) = 9999 + 1 from rfl, run_equalIn_agg w 9999 56 _ _ hS hp]
  simp only [Program.fieldsOf, Tryd.underlying56]
  rw [← ln_eq_iff]
  go_simp
  by_cases h1 : x.k = y.k <;> by_cases h2 : x.o = y.o <;> by_cases h3 : x.v = y.v <;> simp [h1, h2, h3]
theorem run_guard_ln (w : World) (x z : Operand) (xs ys : Array Value) : (eqGuard .neq 56 x z (.agg xs) (.agg ys)).run Tryd.prog w = .ok () w := run_eqGuard_agg w .neq 56 x z xs ys (by kernel_rfl)

theorem linesAt_blk {w : World} {a : Option Addr} {n : Nat} {ls : List Ln} (h : LinesAt w a n ls) {w' : World} (hb : Below w.heap.size w w') : LinesAt w' a n ls := h.up hb

set_option maxRecDepth 100000 in
set_option maxHeartbeats 4000000 in
theorem same10_any (a b : Option Addr) (n m c d : Nat) (ls rs : List Ln) (w : World) (ha : LinesAt w a n ls) (hb : LinesAt w b m rs) (hn : n ≤ 9223372036854775807) :
    Calls Tryd.prog 14 #[.slice a n c, .slice b m d] w fun e w' => e = .returned (.bool (decide (ls = rs))) ∧ Below w.heap.size w w' := by
  have re := run_neq_ln
  have rg := run_guard_ln
  have HA := Lib.hid ha
  have HB := Lib.hid hb
  have HLN := Lib.hid ha.1
  have HLM := Lib.hid hb.1
  clear ha hb
  go_enter Tryd.func14, Tryd.ntmps14
  by_cases hne : n = m
  · subst hne
    have t0 : ((n : Int) != (n : Int)) = false := by simp
    go_wp2_with fail
    go_loopw [5] (fun i wr => ∃ j : Nat, i = .int .i64 (j : Int) ∧ j ≤ n ∧ Hid (ls.take j = rs.take j) ∧ Below w.heap.size w wr) (fun i _ => n - (RowKit.intOf i).toNat)
    case atStart => exact ⟨0, rfl, by omega, (show ls.take 0 = rs.take 0 by simp), Below.refl _ _⟩
    case round =>
      obtain ⟨j, rfl, hj, heq, hbel⟩ := hrel
      by_cases hlt : j < n
      · obtain ⟨g, o, x, rfl, hx, -, x0, x1, x2⟩ := (HA.out.up hbel).get hlt
        obtain ⟨g', o', y, rfl, hy, -, y0, y1, y2⟩ := (HB.out.up hbel).get hlt
        have hstep : Hid (x = y → ls.take (j + 1) = rs.take (j + 1)) := fun e => by
          rw [List.take_add_one, List.take_add_one, hx, hy, heq.out, e]
        have hout : Hid (x ≠ y → ls ≠ rs) := fun h e => h (by rw [e, hy] at hx; exact (Option.some.inj hx).symm)
        clear hx hy
        by_cases hxy : x = y
        · have hd : decide (x = y) = true := decide_eq_true hxy
          have hst := Lib.hid (hstep.out hxy)
          clear hstep hout hxy
          go_wp2_with fail
          go_quiet (fail)
          go_wp2_with fail
          go_roundw
          case rel => exact ⟨j + 1, by go_num, by omega, hst, below_drewN hbel nq⟩
          case measure => simp [RowKit.intOf]; omega
        · have hd : decide (x = y) = false := decide_eq_false hxy
          have hst := Lib.hid (hout.out hxy)
          clear hstep hout hxy
          go_wp2_with fail
          go_quiet (fail)
          go_wp2_with fail
          go_ret
          exact ⟨by rw [decide_eq_false hst.out]; rfl, below_drewN hbel nq⟩
      · have he : ls = rs := by
          have h1 := heq.out
          rw [List.take_of_length_le (by rw [HLN.out]; omega), List.take_of_length_le (by rw [HLM.out]; omega)] at h1
          exact h1
        have HE := Lib.hid he
        clear he
        go_wp2_with fail
        go_ret
        exact ⟨by rw [decide_eq_true HE.out]; rfl, hbel⟩
  · have t0 : ((n : Int) != (m : Int)) = true := by simp; omega
    have HE : Hid (ls ≠ rs) := fun e => hne (by rw [← HLN.out, ← HLM.out, e])
    go_wp2_with fail
    go_ret
    exact ⟨by rw [decide_eq_false HE.out]; rfl, Below.refl _ _⟩
end Go.Proofs.YtcdkgfjjgebcnaaDoor
