/- The walk of ChartOrder: accounts are ordered, by Kind, then by Of. -/
import Derived.Test.YtcdkgfjjgebcnaaDoorChartC
import Derived.Deep.RegionHeld3
namespace Go.Proofs.YtcdkgfjjgebcnaaDoor
open Go Go.RowKit
set_option linter.unusedVariables false

/-- an account lies at block b -/
structure At2 (b : Nat) (k o : Int) (w : World) : Prop where
  c0 : w.cell? ⟨b, 0, none⟩ = some (.int .i64 k)
  c1 : w.cell? ⟨b, 1, none⟩ = some (.int .i64 o)
  lt : b < w.heap.size
theorem At2.new (w : World) (k o : Int) : At2 w.heap.size k o (w.alloc (Obj.cells #[.int .i64 k, .int .i64 o] 24)) := ⟨by simp, by simp, by simp⟩
theorem At2.up {b : Nat} {k o : Int} {w w' : World} (h : At2 b k o w) (hb : Below w.heap.size w w') : At2 b k o w' :=
  ⟨by rw [hb.cell h.lt]; exact h.c0, by rw [hb.cell h.lt]; exact h.c1, Nat.lt_of_lt_of_le h.lt hb.size⟩

theorem At2.alloc {b : Nat} {k o : Int} {w : World} (h : At2 b k o w) (x : Obj) : At2 b k o (w.alloc x) := h.up ((Below.refl _ _).alloc (Nat.le_refl _) x)

/-- three accounts at their blocks, and all that was there -/
structure AccAt (w0 : World) (B : Nat) (ka oa kb ob kc oc : Int) (w : World) : Prop where
  a : At2 B ka oa w
  b : At2 (B + 1) kb ob w
  c : At2 (B + 1 + 1) kc oc w
  base : Below w0.heap.size w0 w
section
variable {w0 w1 w2 w : World} {B : Nat} {ka oa kb ob kc oc : Int}
theorem AccAt.call (h : AccAt w0 B ka oa kb ob kc oc w1) (hb : Below w1.heap.size w1 w2) : AccAt w0 B ka oa kb ob kc oc w2 := ⟨h.a.up hb, h.b.up hb, h.c.up hb, h.base.trans (hb.mono h.base.size)⟩
theorem AccAt.drew (h : AccAt w0 B ka oa kb ob kc oc w1) : AccAt w0 B ka oa kb ob kc oc w1.drew := h.call (Below.refl _ _).drew
theorem AccAt.s (h : AccAt w0 B ka oa kb ob kc oc w1) : w1.cell? ⟨B, 0, none⟩ = some (.int .i64 ka) ∧ w1.cell? ⟨B, 1, none⟩ = some (.int .i64 oa) ∧ w1.cell? ⟨B + 1, 0, none⟩ = some (.int .i64 kb) ∧ w1.cell? ⟨B + 1, 1, none⟩ = some (.int .i64 ob) := ⟨h.a.c0, h.a.c1, h.b.c0, h.b.c1⟩
theorem AccAt.new (w : World) (ka oa kb ob kc oc : Int) : AccAt w w.heap.size ka oa kb ob kc oc (((w.alloc (Obj.cells #[.int .i64 ka, .int .i64 oa] 24)).alloc (Obj.cells #[.int .i64 kb, .int .i64 ob] 24)).alloc (Obj.cells #[.int .i64 kc, .int .i64 oc] 24)) := by
  have hb := At2.new (w.alloc (Obj.cells #[.int .i64 ka, .int .i64 oa] 24)) kb ob
  have hc := At2.new ((w.alloc (Obj.cells #[.int .i64 ka, .int .i64 oa] 24)).alloc (Obj.cells #[.int .i64 kb, .int .i64 ob] 24)) kc oc
  rw [World.size_alloc] at hb hc
  rw [World.size_alloc] at hc
  exact ⟨((At2.new w ka oa).alloc _).alloc _, hb.alloc _, hc, (((Below.refl w.heap.size w).alloc (Nat.le_refl _) _).alloc (by simp) _).alloc (by simp; omega) _⟩
end

theorem lessK_trans {a b c d e f : Int} (h : LessK a b c d) (h' : LessK c d e f) : LessK a b e f := by unfold LessK at *; omega

end Go.Proofs.YtcdkgfjjgebcnaaDoor
