/- The landed journal's helpers: a record's head, and bytes compared. -/
import Derived.Test.YtehfbafocbcfnaaJrnRef1
import Derived.Test.YtehfbafocbcfnaaRecs2
import Derived.Test.YtehfbafocbcfnaaDiskRef4
import Derived.Deep.OwnRows
import Derived.Laws.Bits64
import Derived.Laws.BitsLemmas
import Derived.Laws.DeepNot64
namespace Go.Proofs.Ytehfbafocbcfnaa
open Go Go.RowKit
set_option linter.unusedVariables false

theorem u8_not (a : Nat) (ha : a < 256) : bits .xor .u8 IntKind.u8.max (a : Int) = ((255 - a : Nat) : Int) := by
  obtain ⟨b, rfl⟩ : ∃ b : Fin 256, a = b.val := ⟨⟨a, ha⟩, rfl⟩
  revert b
  decide +kernel

/-- a head's bytes, so many of each half set -/
def hbN (n : Nat) : Nat → List Value
  | 0 => List.replicate 8 (.int .u8 0)
  | j + 1 => ((hbN n j).set j (b8 (n / 256 ^ j % 256))).set (4 + j) (b8 (255 - n / 256 ^ j % 256))
theorem hbN_len (n j : Nat) : (hbN n j).length = 8 := by
  induction j with
  | zero => rfl
  | succ j ih => simp [hbN, ih]
theorem hbN_all (n : Nat) : hbN n 4 = (headN n).map b8 := by
  simp [hbN, headN, List.set, List.replicate]

set_option maxHeartbeats 4000000 in
theorem head_any (n : Nat) (hn : n ≤ 1024) (w : World) : Calls Try.prog 52 #[.int .i64 (n : Int)] w fun e w' =>
    e = .returned (.slice (some ⟨w.heap.size, 0, none⟩) 8 8) ∧ Row w.heap.size 5 ((headN n).map b8) w' ∧ Below w.heap.size w w' := by
  have hm1 := run_make_row' (P := Try.prog) 27 5 (.int .u8 0) 1 Try.underlying27 info_u8 rfl .i64 .i64 8 (by omega) (by omega)
  simp only [made_rep, List.toArray_replicate, show ((8 : Nat) : Int) = 8 from rfl] at hm1
  go_enter Try.func52, Try.ntmps52
  go_wp2_with fail
  go_loopw [6] (fun i wr => ∃ (j : Nat), j ≤ 4 ∧ i = .int .i64 (j : Int) ∧ Row w.heap.size 5 (hbN n j) wr ∧ Hid (Below w.heap.size w wr)) (fun i _ => 4 - (RowKit.intOf i).toNat)
  case atStart => exact ⟨0, by omega, rfl, by have h := Row.new w (List.replicate 8 (.int .u8 0)) 5; rwa [List.toArray_replicate] at h, (Below.refl _ _).alloc (Nat.le_refl _) _⟩
  case round =>
    obtain ⟨j, hj, rfl, hrow, hbel⟩ := hrel
    by_cases hlt : j < 4
    · have t6 : (j : Int) < 4 := by omega
      have t7 : (0 : Int) ≤ (j : Int) := by omega
      have t8 : (j : Int) < 8 := by omega
      have s8 : IntKind.i64.wrap (8 * (j : Int)) = 8 * (j : Int) := IntWalk.i64_in _ (by omega)
      have s4 : IntKind.i64.wrap (4 + (j : Int)) = 4 + (j : Int) := IntWalk.i64_in _ (by omega)
      have s9 : IntKind.i64.wrap ((j : Int) + 1) = (j : Int) + 1 := IntWalk.i64_in _ (by omega)
      obtain ⟨x, hx⟩ : ∃ x, n / 256 ^ j % 256 = x := ⟨_, rfl⟩
      have hx1 : x < 256 := by omega
      have hxi : (n : Int) / 2 ^ (8 * j) % 256 = (x : Int) := by
        rw [← hx, show (2 : Int) ^ (8 * j) = ((256 ^ j : Nat) : Int) by rw [Int.pow_mul]; simp]
        omega
      have hu : bits .xor .u8 (if IntKind.u8.signed = true then -1 else IntKind.u8.max) (x : Int) = ((255 - x : Nat) : Int) := u8_not x hx1
      have hlen := hbN_len n j
      have hset : hbN n (j + 1) = ((hbN n j).set j (b8 x)).set (4 + j) (b8 (255 - x)) := by rw [← hx]; rfl
      obtain ⟨z, hz⟩ : ∃ z, 255 - x = z := ⟨_, rfl⟩
      rw [hz] at hu hset
      have HS := Lib.hid hset
      have hr1 := hrow.set j (b8 x)
      have hr2 := hr1.set (4 + j) (b8 z)
      have f1 := hrow.frozen j
      have c1 := hrow.cell (j := j) (by omega)
      have c2 := hr1.cell (j := j) (by simp; omega)
      have f3 := hr1.frozen (4 + j)
      have c3 := hr1.cell (j := 4 + j) (by simp; omega)
      rw [show ((hbN n j).set j (b8 x)).getD j undef = b8 x by simp [List.getD, hlen, show j < 8 by omega]] at c2
      simp only [b8] at c2 f3 c3
      have HR := Lib.hid hr2
      clear hx hset hrow hr1 hr2 hz
      go_wp2_with fail
      go_roundw
      case rel => exact ⟨j + 1, by omega, by go_num, by rw [HS.out]; exact HR.out, (hbel.out.setCell (Nat.le_refl _) _).setCell (Nat.le_refl _) _⟩
      case measure => simp [RowKit.intOf]; omega
    · obtain rfl : j = 4 := by omega
      rw [hbN_all] at hrow
      go_wp2_with fail
      go_ret
      exact ⟨rfl, hrow, hbel.out⟩

set_option maxHeartbeats 4000000 in
theorem equal_any (a a' : Option Addr) (m c m' c' : Nat) (x y : List Nat) (w : World) (h : Cells w a m (x.map b8)) (h' : Cells w a' m' (y.map b8)) (hx : ∀ b ∈ x, b < 256) (hy : ∀ b ∈ y, b < 256) :
    Calls Try.prog 51 #[.slice a m c, .slice a' m' c'] w fun e w' => e = .returned (.bool (decide (x = y))) ∧ w' = w := by
  have rs1 : (convert 27 9 (.slice a m c)).run Try.prog w = .ok (.string (strB x)) w := run_str_row h
  have rs2 : (convert 27 9 (.slice a' m' c')).run Try.prog w = .ok (.string (strB y)) w := run_str_row h'
  clear h h'
  go_enter Try.func51, Try.ntmps51
  by_cases hxy : x = y
  · have hst : ((strB x).toList == (strB y).toList) = true := by rw [hxy]; exact strB_same _
    have hd : decide (x = y) = true := decide_eq_true hxy
    rw [hd]
    clear hxy hd
    go_wp2_with fail
    go_ret
    exact ⟨by simp, rfl⟩
  · have hst : ((strB x).toList == (strB y).toList) = false := strB_other hx hy hxy
    have hd : decide (x = y) = false := decide_eq_false hxy
    rw [hd]
    clear hxy hd
    go_wp2_with fail
    go_ret
    exact ⟨by simp, rfl⟩
end Go.Proofs.Ytehfbafocbcfnaa
