/- The document's answer of layer 9: a number's digits. -/
import Derived.Test.YtkiehlkmbkgenaaDoorChartC
import Derived.Test.YtkiehlkmbkgenaaDoorStr
import Derived.IntWalk
namespace Go.Proofs.YtkiehlkmbkgenaaDoor
open Go Go.RowKit
set_option linter.unusedVariables false

theorem strB_strL (l : List Nat) : strB l = strL (l.map UInt8.ofNat) := by
  apply ByteArray.ext
  apply Array.ext'
  simp only [strB, strOfNums_data, List.map_map, strL]
  apply List.map_congr_left
  intro a _
  simp

theorem dec_row {w0 w : World} (h : Below w0.heap.size w0 w) (d : Nat) :
    (convert 53 9 (.slice (some ⟨w.heap.size, 0, none⟩) 1 1)).run Tryd.prog (w.alloc (Obj.cells #[.int .u8 d] 5)) = .ok (.string (strL [UInt8.ofNat d])) (w.alloc (Obj.cells #[.int .u8 d] 5)) := by
  have h := run_str_row (c := 1) (bs := [d]) (one_new w (b8 d) 5)
  rw [strB_strL] at h
  exact h

set_option maxRecDepth 100000 in
set_option maxHeartbeats 4000000 in
theorem refDec_any (N : Nat) (hN : N ≤ 65536) (w : World) : Calls Tryd.prog 18 #[.int .i64 N] w
    fun e w' => e = .returned (.string (strL (decL N))) ∧ Below w.heap.size w w' := by
  go_enter Tryd.func18, Tryd.ntmps18
  go_wp2_with fail
  go_loopw [0, 3] (fun x v wr => ∃ (m : Nat) (l : List UInt8), x = .int .i64 m ∧ m ≤ 65536 ∧ v = .string (strL l) ∧ decL m ++ l = decL N ∧ Below w.heap.size w wr) (fun x _ _ => (RowKit.intOf x).toNat)
  case atStart => exact ⟨N, [], rfl, hN, rfl, by simp, Below.refl _ _⟩
  case round =>
    obtain ⟨m, l, rfl, hm, rfl, hl, hbel⟩ := hrel
    by_cases h0 : m = 0
    · subst h0
      rw [decL_zero, List.nil_append] at hl
      subst hl
      go_wp2_with fail
      go_ret
      exact ⟨rfl, hbel⟩
    · have t1 : (0 : Int) < (m : Int) := by omega
      obtain ⟨d, hd⟩ : ∃ d, 48 + m % 10 = d := ⟨_, rfl⟩
      obtain ⟨q, hq⟩ : ∃ q, m / 10 = q := ⟨_, rfl⟩
      rw [decL_pos h0, hd, hq] at hl
      have e1 : 48 + (m : Int) % 10 = (d : Int) := by omega
      have e2 : (m : Int) / 10 = (q : Int) := by omega
      have e3 : (m : Int).tmod 10 = (m : Int) % 10 := Int.tmod_eq_emod_of_nonneg (by omega)
      have e4 : (m : Int).tdiv 10 = (m : Int) / 10 := Int.tdiv_eq_ediv_of_nonneg (by omega)
      have hq1 : q < m := by omega
      have hd1 : d < 256 := by omega
      have HL := Lib.hid hl
      have hb1 := Lib.hid (hbel.alloc hbel.size (Obj.cells #[.int .u8 d] 5))
      have rs := dec_row hbel d
      have t2 : (strL [UInt8.ofNat d]).size + (strL l).size ≤ 9223372036854775807 := by
        have h5 := decL_len 5 N (by omega)
        rw [← hl, List.length_append] at h5
        rw [strL_size, strL_size, List.length_singleton]
        omega
      clear hd hq hl
      go_wp2_with fail
      go_roundw
      case rel => exact ⟨q, UInt8.ofNat d :: l, rfl, by omega, by rw [strL_append]; rfl, by rw [← HL.out]; simp, hb1.out⟩
      case measure => simp [RowKit.intOf]; omega
end Go.Proofs.YtkiehlkmbkgenaaDoor
