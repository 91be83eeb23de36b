/- The contracts of the document's answer of layer 8: a record's head; two rows of records held against each other. -/
import Derived.Test.YtehfbafocbcfnaaJrnNum
import Derived.Test.YtehfbafocbcfnaaOnly
import Derived.Test.YtehfbafocbcfnaaStr
import Derived.RegionTactic
import Derived.BigRegion
import Derived.Deep.RegionHeld3
namespace Go.Proofs.Ytehfbafocbcfnaa
open Go Go.RowKit
set_option linter.unusedVariables false

theorem take_snoc (l : List Nat) (j : Nat) (h : j < l.length) : l.take (j + 1) = l.take j ++ [l.getD j 0] := by
  rw [List.take_add_one]
  simp [List.getD, h]

theorem head_dig (n j : Nat) (h : j < 4) : (headN n).getD j 0 = n / 256 ^ j % 256 := by
  have : j = 0 ∨ j = 1 ∨ j = 2 ∨ j = 3 := by omega
  rcases this with rfl | rfl | rfl | rfl <;> simp [headN, List.getD]
theorem head_not (n j : Nat) (h : j < 4) : (headN n).getD (4 + j) 0 = 255 - (headN n).getD j 0 := by
  have : j = 0 ∨ j = 1 ∨ j = 2 ∨ j = 3 := by omega
  rcases this with rfl | rfl | rfl | rfl <;> simp [headN, List.getD]

set_option maxHeartbeats 4000000 in
theorem refHead_any (n : Nat) (hn : n ≤ 1000000) (w : World) : Calls Try.prog 50 #[.int .i64 (n : Int)] w (BytesTo w (headN n)) := by
  go_enter Try.func50, Try.ntmps50
  go_wp2_with fail
  go_loopw [3, 4, 5] (fun v k i wr => ∃ (j : Nat), j ≤ 4 ∧ i = .int .i64 (j : Int) ∧ k = .int .i64 ((n / 256 ^ j : Nat) : Int) ∧ wr.ownsRow w.heap.size 5 1 v j (((headN n).take j).map b8) ∧ Hid (Below w.heap.size w wr)) (fun _ _ i _ => 4 - (RowKit.intOf i).toNat)
  case atStart => exact ⟨0, by omega, rfl, by simp, World.ownsRow_nil _ _ _ _, Below.refl _ _⟩
  case round =>
    obtain ⟨j, hj, rfl, rfl, hown, hbel⟩ := hrel
    by_cases hlt : j < 4
    · obtain ⟨k, hk⟩ : ∃ k, n / 256 ^ j = k := ⟨_, rfl⟩
      have hkn : k ≤ n := by rw [← hk]; exact Nat.div_le_self _ _
      have hd : (headN n).getD j 0 = k % 256 := by rw [head_dig n j hlt, hk]
      have hk2 : n / 256 ^ (j + 1) = k / 256 := by rw [Nat.pow_succ, ← Nat.div_div_eq_div_mul, hk]
      rw [hk]
      have HS : Hid ((headN n).take (j + 1) = (headN n).take j ++ [k % 256]) := by show _ = _; rw [take_snoc _ _ (by rw [headN_len]; omega), hd]
      have HK2 := Lib.hid hk2
      have HO := Lib.hid hown
      have hsz := hbel.out.size
      have t6 : (j : Int) < 4 := by omega
      have er : Int.tmod (k : Int) 256 = ((k % 256 : Nat) : Int) := by rw [Int.tmod_eq_emod_of_nonneg (by omega)]; omega
      have eq : Int.tdiv (k : Int) 256 = ((k / 256 : Nat) : Int) := by rw [Int.tdiv_eq_ediv_of_nonneg (by omega)]; omega
      obtain ⟨d, hdd⟩ : ∃ d, k % 256 = d := ⟨_, rfl⟩
      obtain ⟨q, hqq⟩ : ∃ q, k / 256 = q := ⟨_, rfl⟩
      rw [hdd] at er HS
      rw [hqq] at eq HK2
      have hd1 : d < 256 := by omega
      have hq1 : q ≤ 1000000 := by omega
      have ew : IntKind.u8.wrap (d : Int) = (d : Int) := by rw [IntKind.wrap_u8]; omega
      have ew2 : IntKind.i64.wrap (q : Int) = (q : Int) := IntWalk.i64_in _ (by omega)
      have M3 : Hid (j + 1 ≤ maxLen) := by show j + 1 ≤ maxLen; simp only [maxLen]; omega
      clear hown hk hd hk2 hdd hqq
      go_wp2_with (at_builtin; refine wpList_append_cells rfl (.tmp 12) (.tmp 16) 27 rfl w.heap.size Tu8 _ j (((headN n).take j).map b8) rfl (HO.out.alloc _) (some ⟨_, 0, none⟩) 1 1 [b8 d] rfl (fun h => by cases h) (one_new _ _ _) (b8_one [d]) M3.out (by omega) (Nat.le_trans hsz (by simp)) ?_; intro v1 w1 o1 q1 r1 l1)
      have hb1 := Lib.hid ((hbel.out.alloc hsz _).grown q1 (Nat.le_trans hsz (by simp)) (fun z hz => (HO.out.lt z hz).1))
      rw [b8_snoc, ← HS.out] at o1
      go_roundw
      case rel => exact ⟨j + 1, by omega, by go_num, by first | rfl | (rw [HK2.out]), o1, hb1⟩
      case measure => simp [RowKit.intOf]; omega
    · obtain rfl : j = 4 := by omega
      have HO := Lib.hid hown
      obtain ⟨k4, hk4⟩ : ∃ k, n / 256 ^ 4 = k := ⟨_, rfl⟩
      rw [hk4, show ((4 : Nat) : Int) = 4 from rfl]
      clear hown hk4
      go_wp2_with fail
      go_loopw [3, 6] (fun v i wr => ∃ (j : Nat), j ≤ 4 ∧ i = .int .i64 (j : Int) ∧ wr.ownsRow w.heap.size 5 1 v (4 + j) (((headN n).take (4 + j)).map b8) ∧ Hid (Below w.heap.size w wr)) (fun _ i _ => 4 - (RowKit.intOf i).toNat)
      case atStart => exact ⟨0, by omega, rfl, HO.out, hbel⟩
      case round =>
        obtain ⟨j, hj, rfl, hown, hbel⟩ := hrel
        obtain ⟨g, cap, rfl, hg1, hg2⟩ := hown.form (by omega)
        by_cases hlt : j < 4
        · have hcj := hown.cellAt j (by omega)
          have hlen : (headN n).length = 8 := headN_len n
          have hx256 : (headN n).getD j 0 < 256 := headN_256 n _ (by simp [List.getD, hlen, show j < 8 by omega])
          rw [List.getElem?_map, List.getElem?_take_of_lt (by omega), List.getElem?_eq_getElem (by omega)] at hcj
          have hx : (headN n)[j]'(by omega) = (headN n).getD j 0 := by simp [List.getD, hlen, show j < 8 by omega]
          rw [hx] at hcj
          have HS : Hid ((headN n).take (4 + j + 1) = (headN n).take (4 + j) ++ [255 - (headN n).getD j 0]) := by show _ = _; rw [take_snoc _ _ (by omega), head_not n j hlt]
          obtain ⟨x, hxx⟩ : ∃ x, (headN n).getD j 0 = x := ⟨_, rfl⟩
          rw [hxx] at HS hcj hx256
          simp only [Option.map_some, b8] at hcj
          obtain ⟨y, hy⟩ : ∃ y, 255 - x = y := ⟨_, rfl⟩
          rw [hy] at HS
          have hy1 : y < 256 := by omega
          have ew : IntKind.u8.wrap (255 - (x : Int)) = (y : Int) := by rw [IntKind.wrap_u8]; omega
          have HO := Lib.hid hown
          have hsz := hbel.out.size
          have t6 : (j : Int) < 4 := by omega
          have t7 : (0 : Int) ≤ (j : Int) := by omega
          have t8 : (j : Int) < ((4 + j : Nat) : Int) := by omega
          have M3 : Hid (4 + j + 1 ≤ maxLen) := by show 4 + j + 1 ≤ maxLen; simp only [maxLen]; omega
          clear hown hx hxx hy
          go_wp2_with (at_builtin; refine wpList_append_cells rfl (.tmp 24) (.tmp 30) 27 rfl w.heap.size Tu8 _ (4 + j) (((headN n).take (4 + j)).map b8) rfl (HO.out.alloc _) (some ⟨_, 0, none⟩) 1 1 [b8 y] rfl (fun h => by cases h) (one_new _ _ _) (b8_one [y]) M3.out (by omega) (Nat.le_trans hsz (by simp)) ?_; intro v1 w1 o1 q1 r1 l1)
          have hb1 := Lib.hid ((hbel.out.alloc hsz _).grown q1 (Nat.le_trans hsz (by simp)) (fun z hz => (HO.out.lt z hz).1))
          rw [b8_snoc, ← HS.out] at o1
          go_roundw
          case rel => exact ⟨j + 1, by omega, by go_num, o1, hb1⟩
          case measure => simp [RowKit.intOf]; omega
        · obtain rfl : j = 4 := by omega
          rw [show (headN n).take (4 + 4) = headN n from rfl] at hown
          have HO := Lib.hid hown
          clear hown
          go_wp2_with fail
          go_ret
          exact ⟨_, rfl, HO.out, hbel.out⟩
end Go.Proofs.Ytehfbafocbcfnaa
