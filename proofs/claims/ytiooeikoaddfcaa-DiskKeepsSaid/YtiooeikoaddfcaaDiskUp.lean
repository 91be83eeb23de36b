/- The example at the head of layer 7's statements; the walk of DiskNew. -/
import Derived.Test.YtiooeikoaddfcaaDiskC
namespace Go.Proofs.Ytiooeikoaddfcaa
open Go Go.RowKit
set_option linter.unusedVariables false

theorem DiskC.up {D : Nat → (Nat → Prop) → Addr → Dsk → World → Prop} (C : DiskC D) {n : Nat} {F : Nat → Prop} {d : Addr} {s : Dsk} {w w' : World} (h : D n F d s w) (hb : Below w.heap.size w w') : D n F d s w' :=
  C.keep (X := fun _ => False) h (Only.of_below hb) fun _ hf => hf.elim

theorem code_two : (strB [7, 0]).toList = ([7, 0] : List UInt8) := str_up7

set_option maxHeartbeats 4000000 in
theorem up07_any (D : Nat → (Nat → Prop) → Addr → Dsk → World → Prop) (DC : Hid (DiskC D)) (w : World) : Calls Try.prog 7 #[] w fun e w' => e = .returned (.bool true) ∧ Below w.heap.size w w' := by
  have hst := str_up7
  go_enter Try.func7, Try.ntmps7
  go_wp2_with fail
  refine (DC.out.new 1 _ (by unfold i64d; omega)).mono ?_
  rintro e w1 ⟨hb1, ⟨-, -, d, F1, rfl, hD1, hF1⟩ | ⟨h, -⟩⟩
  rotate_left
  · omega
  have HD1 : Hid (D 1 F1 d (Dsk.zero 1) w1) := hD1
  have HF1 := Lib.hid hF1
  have HB1 := Lib.hid hb1
  clear hD1 hF1 hb1
  have hbw : Below w1.heap.size w1 (w1.alloc (Obj.cells #[.int .u8 7, .int .u8 8] 5)) := (Below.refl _ _).alloc (Nat.le_refl _) _
  have HW := Lib.hid hbw
  clear hbw
  go_wp2_with fail
  refine (DC.out.write 0 (some ⟨w1.heap.size, 0, none⟩) 2 2 [7, 8] (DC.out.up HD1.out HW.out) (by unfold i64d; omega) ⟨rfl, Or.inr ⟨_, 0, rfl, fun j hj => by
    have : j = 0 ∨ j = 1 := by omega
    rcases this with rfl | rfl <;> simp [b8]⟩⟩ (by simp) (fun x hx => by cases hx; exact Or.inr fun hf => by have := DC.out.lt HD1.out _ hf; simp at this) (by omega) (by simp [maxLen]) (by omega)).mono ?_
  rintro e w2 ⟨ho2, F2, hF2, ⟨-, rfl, hD2⟩ | ⟨h, -⟩⟩
  rotate_left
  · exact absurd h (by decide)
  have HB2 : Hid (Below w.heap.size w w2) := (HB1.out.trans (HW.out.mono HB1.out.size)).trans (ho2.below (Nat.le_trans HB1.out.size HW.out.size) HF1.out)
  have HF2 : Hid (∀ k, F2 k → w.heap.size ≤ k) := fun k hk => by
    rcases hF2 k hk with h | h
    · exact HF1.out k h
    · exact Nat.le_trans (Nat.le_trans HB1.out.size HW.out.size) h
  have HD2 := Lib.hid hD2
  clear ho2 hF2 hD2 HF1 HB1 HD1 HW
  have hbw : Below w2.heap.size w2 (w2.alloc (Obj.cells #[.int .i64 1] 3)) := (Below.refl _ _).alloc (Nat.le_refl _) _
  have HW := Lib.hid hbw
  clear hbw
  go_wp2_with fail
  refine (DC.out.crash (some ⟨w2.heap.size, 0, none⟩) 1 1 [1] (DC.out.up HD2.out HW.out) ⟨rfl, (fun n hn => by simp at hn; omega), Or.inr ⟨_, 0, rfl, fun j hj => by
    obtain rfl : j = 0 := by omega
    simp⟩⟩ (fun x hx => by cases hx; exact Or.inr fun hf => by have := DC.out.lt HD2.out _ hf; simp at this) (by omega) (by omega)).mono ?_
  rintro e w3 ⟨ho3, F3, hF3, rfl, hD3⟩
  have HB3 : Hid (Below w.heap.size w w3) := (HB2.out.trans (HW.out.mono HB2.out.size)).trans (ho3.below (Nat.le_trans HB2.out.size HW.out.size) HF2.out)
  have HD3 := Lib.hid hD3
  clear ho3 hF3 hD3 HF2 HB2 HD2 HW
  go_wp2_with fail
  refine (DC.out.read 0 2 HD3.out (by unfold i64d; omega) (by unfold i64d; omega)).mono ?_
  rintro e w4 ⟨hb4, ⟨-, v, rfl, ho⟩ | ⟨h, -⟩⟩
  rotate_left
  · exact absurd h (by decide)
  have hnw : ((((((Dsk.zero 1).write (0 : Int).toNat [7, 8]).crash [1]).nw.drop (0 : Int).toNat).take (2 : Int).toNat)) = [7, 0] := by
    rw [show (0 : Int).toNat = 0 from rfl, show (2 : Int).toNat = 2 from rfl, List.drop_zero]
    exact up_crash7
  rw [hnw] at ho
  obtain ⟨pa, pc, rfl, hcl, -, -, -⟩ := own_bytes ho
  have HB4 := Lib.hid (HB3.out.trans (hb4.mono HB3.out.size))
  have rs : (convert 29 9 (.slice pa 2 pc)).run Try.prog w4 = .ok (.string (strB [7, 0])) w4 := run_str_row (c := pc) hcl
  clear hb4 ho hcl hnw
  go_wp2_with fail
  go_ret
  exact ⟨by simp, HB4.out⟩
end Go.Proofs.Ytiooeikoaddfcaa
