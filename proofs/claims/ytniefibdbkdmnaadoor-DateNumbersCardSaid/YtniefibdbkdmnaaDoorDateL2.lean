/- The walk of DateMays: whether any day is a date, and how many days any month has. -/
import Derived.Test.YtniefibdbkdmnaaDoorDateC
import Derived.IntWalk
import Derived.Deep.RegionHeld3
namespace Go.Proofs.YtniefibdbkdmnaaDoor
open Go Go.RowKit
set_option linter.unusedVariables false

/-- a date boxed at block b, the table, and all that was there -/
structure Box3 (w : World) (b : Nat) (y m d : Int) (w' : World) : Prop where
  c0 : w'.cell? ⟨b, 0, none⟩ = some (.int .i64 y)
  c1 : w'.cell? ⟨b, 1, none⟩ = some (.int .i64 m)
  c2 : w'.cell? ⟨b, 2, none⟩ = some (.int .i64 d)
  mon : Mon w'
  below : Below w.heap.size w w'
  lt : b < w'.heap.size

theorem Box3.call {w w1 w2 : World} {b : Nat} {y m d : Int} (h : Box3 w b y m d w1) (hb : Below w1.heap.size w1 w2) : Box3 w b y m d w2 :=
  ⟨by rw [hb.cell (p := ⟨b, 0, none⟩) h.lt]; exact h.c0, by rw [hb.cell (p := ⟨b, 1, none⟩) h.lt]; exact h.c1, by rw [hb.cell (p := ⟨b, 2, none⟩) h.lt]; exact h.c2,
   h.mon.of hb, h.below.trans (hb.mono h.below.size), Nat.lt_of_lt_of_le h.lt hb.size⟩
theorem Box3.drewN {w w1 : World} {b : Nat} {y m d : Int} (h : Box3 w b y m d w1) (n : Nat) : Box3 w b y m d (w1.drewN n) := h.call (below_drewN (Below.refl _ _) n)
theorem Box3.alloc {w w1 : World} {b : Nat} {y m d : Int} (h : Box3 w b y m d w1) (o : Obj) : Box3 w b y m d (w1.alloc o) := h.call ((Below.refl _ _).alloc (Nat.le_refl _) o)
theorem Box3.s {w w1 : World} {b : Nat} {y m d : Int} (h : Box3 w b y m d w1) :
    w1.cell? ⟨b, 0, none⟩ = some (.int .i64 y) ∧ w1.cell? ⟨b, 1, none⟩ = some (.int .i64 m) ∧ w1.cell? ⟨b, 2, none⟩ = some (.int .i64 d) := ⟨h.c0, h.c1, h.c2⟩
/-- a date that is boxed -/
theorem Box3.new {w : World} (T : Mon w) (y m d : Int) : Box3 w w.heap.size y m d (w.alloc (Obj.cells #[.int .i64 y, .int .i64 m, .int .i64 d] 23)) :=
  ⟨by simp, by simp, by simp, T.alloc _, (Below.refl _ _).alloc (Nat.le_refl _) _, by simp⟩

set_option maxHeartbeats 4000000 in
theorem dateMays_walk (DC : Hid DateC) (y m d : Int) (w : World) (T : Mon w) :
    Calls Tryd.prog 3 #[.agg #[.int .i64 y, .int .i64 m, .int .i64 d]] w fun e w' => e = .returned (.bool true) ∧ Below w.heap.size w w' := by
  obtain ⟨r, hr⟩ : ∃ r, decide (mayD y m d) = r := ⟨_, rfl⟩
  obtain ⟨v, hv⟩ : ∃ v, dm y m = v := ⟨_, rfl⟩
  have HR := Lib.hid hr
  have HV := Lib.hid hv
  have HX := Lib.hid (Box3.new T y m d)
  have t0 : (r == r) = true := by simp
  have t1 : (v == v) = true := by simp
  clear hr hv T
  go_enter Tryd.func3, Tryd.ntmps3
  go_wp2_with fail
  refine (up04_any DC _ HX.out.mon).mono ?_
  rintro e w1 ⟨rfl, hb1⟩
  have hX := Lib.hid (HX.out.call hb1)
  obtain ⟨c0, c1, c2⟩ := hX.out.s
  clear hb1 HX
  go_wp2_with fail
  go_region_held3 (fun w' => w'.cell? ⟨w.heap.size, 0, none⟩ = some (.int .i64 y) ∧ w'.cell? ⟨w.heap.size, 1, none⟩ = some (.int .i64 m) ∧ w'.cell? ⟨w.heap.size, 2, none⟩ = some (.int .i64 d))
    (first | exact hX.out.s | exact (hX.out.drewN 1).s)
    (first
      | (go_at_call 9; refine (DC.out.may y m d _ (by first | exact hX.out.mon | exact hX.out.mon.drewN 1)).mono ?_; rintro e w2 ⟨rfl, hb2⟩; rw [HR.out]; have hX := Lib.hid (by first | exact hX.out.call hb2 | exact (hX.out.drewN 1).call hb2); clear hb2)
      | (go_at_call 10; (with_reducible refine (refMayD_any y m d r HR.out _).mono ?_); rintro e w2 ⟨rfl, hb2⟩; have hX := Lib.hid (by first | exact hX.out.call hb2 | exact (hX.out.drewN 1).call hb2); clear hb2)
      | (go_at_call 11; refine (DC.out.days y m _ (by first | exact hX.out.mon | exact hX.out.mon.drewN 1)).mono ?_; rintro e w2 ⟨rfl, hw⟩; subst hw; rw [HV.out])
      | (go_at_call 12; (with_reducible refine (refDays_any y m v HV.out _).mono ?_); rintro e w2 ⟨rfl, hw⟩; subst hw))
  all_goals
    go_wp2_with fail
    go_ret
    exact ⟨rfl, hX.out.below⟩
end Go.Proofs.YtniefibdbkdmnaaDoor
