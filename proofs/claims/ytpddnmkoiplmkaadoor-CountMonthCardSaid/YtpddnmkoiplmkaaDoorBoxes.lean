/- Dates in memory of the call's own: what is known of each, and of all that was there. -/
import Derived.Test.YtpddnmkoiplmkaaDoorDateC
import Derived.IntWalk
namespace Go.Proofs.YtpddnmkoiplmkaaDoor
open Go Go.RowKit
set_option linter.unusedVariables false

/-- a date lies at block b -/
structure At3 (b : Nat) (y m d : Int) (w : World) : Prop where
  c0 : w.cell? ⟨b, 0, none⟩ = some (.int .i64 y)
  c1 : w.cell? ⟨b, 1, none⟩ = some (.int .i64 m)
  c2 : w.cell? ⟨b, 2, none⟩ = some (.int .i64 d)
  lt : b < w.heap.size
theorem At3.call {w1 w2 : World} {b : Nat} {y m d : Int} (h : At3 b y m d w1) (hb : Below w1.heap.size w1 w2) : At3 b y m d w2 :=
  ⟨by rw [hb.cell (p := ⟨b, 0, none⟩) h.lt]; exact h.c0, by rw [hb.cell (p := ⟨b, 1, none⟩) h.lt]; exact h.c1, by rw [hb.cell (p := ⟨b, 2, none⟩) h.lt]; exact h.c2, Nat.lt_of_lt_of_le h.lt hb.size⟩
theorem At3.drewN {w1 : World} {b : Nat} {y m d : Int} (h : At3 b y m d w1) (n : Nat) : At3 b y m d (w1.drewN n) := h.call (below_drewN (Below.refl _ _) n)
theorem At3.alloc {w1 : World} {b : Nat} {y m d : Int} (h : At3 b y m d w1) (o : Obj) : At3 b y m d (w1.alloc o) := h.call ((Below.refl _ _).alloc (Nat.le_refl _) o)
theorem At3.new (w : World) (y m d : Int) : At3 w.heap.size y m d (w.alloc (Obj.cells #[.int .i64 y, .int .i64 m, .int .i64 d] 23)) := ⟨by simp, by simp, by simp, by simp⟩
theorem At3.s {w1 : World} {b : Nat} {y m d : Int} (h : At3 b y m d w1) :
    w1.cell? ⟨b, 0, none⟩ = some (.int .i64 y) ∧ w1.cell? ⟨b, 1, none⟩ = some (.int .i64 m) ∧ w1.cell? ⟨b, 2, none⟩ = some (.int .i64 d) := ⟨h.c0, h.c1, h.c2⟩

/-- the table lies there, and all that was there lies as it lay -/
structure Base (w w' : World) : Prop where
  mon : Mon w'
  below : Below w.heap.size w w'
theorem Base.refl {w : World} (T : Mon w) : Base w w := ⟨T, Below.refl _ _⟩
theorem Base.call {w w1 w2 : World} (h : Base w w1) (hb : Below w1.heap.size w1 w2) : Base w w2 := ⟨h.mon.of hb, h.below.trans (hb.mono h.below.size)⟩
theorem Base.alloc {w w1 : World} (h : Base w w1) (o : Obj) : Base w (w1.alloc o) := h.call ((Below.refl _ _).alloc (Nat.le_refl _) o)
theorem Base.drewN {w w1 : World} (h : Base w w1) (n : Nat) : Base w (w1.drewN n) := h.call (below_drewN (Below.refl _ _) n)

theorem run_neq_date (w : World) (y m d y' m' d' : Int) :
    (binOp .neq 23 (.agg #[.int .i64 y, .int .i64 m, .int .i64 d]) (.agg #[.int .i64 y', .int .i64 m', .int .i64 d'])).run Tryd.prog w = .ok (.bool (!(y == y' && m == m' && d == d'))) w := by
  have u3 := Tryd.underlying3
  have a3 := Tryd.isAgg3
  have z3 := Tryd.sizeOf3
  have hS : Tryd.prog.underlying 23 = some (.struct (Tryd.prog.fieldsOf 23)) := by kernel_rfl
  have hp : Tryd.prog.stoodInHeld 23 = false := by kernel_rfl
  rw [run_neq_struct, show (10000 : Nat) = 9999 + 1 from rfl, run_equalIn_agg w 9999 23 _ _ hS hp]
  simp only [Program.fieldsOf, Tryd.underlying23]
  go_simp
  by_cases h1 : y = y' <;> by_cases h2 : m = m' <;> by_cases h3 : d = d' <;> simp [h1, h2, h3]
theorem run_guard_ndate (w : World) (x z : Operand) (xs ys : Array Value) : (eqGuard .neq 23 x z (.agg xs) (.agg ys)).run Tryd.prog w = .ok () w := run_eqGuard_agg w .neq 23 x z xs ys (by kernel_rfl)

theorem run_neq_same (w : World) (k : Int) : (binOp .neq 26 (errC k) (errC k)).run Tryd.prog w = .ok (.bool false) w := by
  rw [Lib.run_neq_iface_int w k k err_under code_comp code_under]; simp
theorem run_eql_same (w : World) (k : Int) : (binOp .eql 26 (errC k) (errC k)).run Tryd.prog w = .ok (.bool true) w := by
  rw [run_eql_code]; simp
theorem run_eql_errC (w : World) (j k : Int) : (binOp .eql 26 (errC j) (errC k)).run Tryd.prog w = .ok (.bool (j == k)) w := run_eql_code w j k

/-- what months' answers come to, as a number of a case -/
def MvIs (y m d n : Int) (k p0 p1 p2 : Int) : Prop :=
  (k = 2 ∧ ¬ mayD y m d ∧ p0 = 0 ∧ p1 = 0 ∧ p2 = 0) ∨ (k = 1 ∧ mayD y m d ∧ noMv y m n ∧ p0 = 0 ∧ p1 = 0 ∧ p2 = 0) ∨
  (k = 0 ∧ mayD y m d ∧ ¬ noMv y m n ∧ p0 = mvY y m n ∧ p1 = mvM y m n ∧ p2 = mvD y m d n)

theorem months_k (DC : Hid DateC) (y m d n : Int) (w : World) (T : Mon w) (n0 : -9223372036854775808 ≤ n) (n1 : n ≤ 9223372036854775807) :
    Calls Tryd.prog 17 #[.agg #[.int .i64 y, .int .i64 m, .int .i64 d], .int .i64 n] w fun e w' => Below w.heap.size w w' ∧ ∃ k p0 p1 p2, MvIs y m d n k p0 p1 p2 ∧ e = .returned (.tuple #[.agg #[.int .i64 p0, .int .i64 p1, .int .i64 p2], errv k]) := by
  refine (DC.out.months y m d n w T n0 n1).mono ?_
  rintro e w' ⟨hb, ⟨h, rfl⟩ | ⟨h, h2, rfl⟩ | ⟨h, h2, rfl⟩⟩
  · exact ⟨hb, 2, 0, 0, 0, Or.inl ⟨rfl, h, rfl, rfl, rfl⟩, rfl⟩
  · exact ⟨hb, 1, 0, 0, 0, Or.inr (Or.inl ⟨rfl, h, h2, rfl, rfl, rfl⟩), rfl⟩
  · exact ⟨hb, 0, _, _, _, Or.inr (Or.inr ⟨rfl, h, h2, rfl, rfl, rfl⟩), rfl⟩
end Go.Proofs.YtpddnmkoiplmkaaDoor
