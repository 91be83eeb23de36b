/- The contracts of the document's answers of layer 6: a number's bytes, a command's bytes. -/
import Derived.Test.YtbiggclekgpgeaaBytes
import Derived.Test.YtbiggclekgpgeaaPackNum
namespace Go.Proofs.Ytbiggclekgpgeaa
open Go Go.RowKit
set_option linter.unusedVariables false

set_option maxHeartbeats 2000000 in
theorem refNumber6_any (n : Int) (h : i64 n) (w : World) : Calls Try.prog 14 #[.int .i64 n] w (BytesTo w (numB n)) := by
  obtain ⟨n0, n1⟩ := h
  have hlen := (numB_len ⟨n0, n1⟩).2
  have h64 := zig_64 ⟨n0, n1⟩
  obtain ⟨z, hz⟩ : ∃ z, zig n = z := ⟨_, rfl⟩
  rw [hz] at h64
  have HB : Hid (dig7 z = numB n) := by rw [← hz]; exact rfl
  have HL := Lib.hid hlen
  clear hlen
  by_cases hn : n < 0
  all_goals
    have hzz : (z : Int) = (if n < 0 then -(n + 1) * 2 + 1 else n * 2) := by rw [← hz]; unfold zig; split <;> (try split) <;> omega
    first
      | rw [if_pos hn] at hzz
      | rw [if_neg hn] at hzz
    have HZ := Lib.hid hzz
    clear hz hzz
    go_enter Try.func14, Try.ntmps14
    go_wp2_with fail
    go_loopw [3, 4] (fun x v wr => ∃ (u : Nat) (ds : List Nat), x = .int .u64 u ∧ u < 18446744073709551616 ∧ wr.ownsRow w.heap.size 5 1 v ds.length (ds.map b8) ∧ ds ++ dig7 u = numB n ∧ Below w.heap.size w wr) (fun x _ _ => (RowKit.intOf x).toNat)
    case atStart => exact ⟨z, [], by rw [HZ.out], h64, World.ownsRow_nil _ _ _ _, HB.out, Below.refl _ _⟩
    case round =>
      obtain ⟨u, ds, rfl, hu, hown, hds, hbel⟩ := hrel
      have hl : ds.length + (dig7 u).length ≤ 10 := by have h1 := HL.out; rw [← hds, List.length_append] at h1; exact h1
      have hl1 := dig7_len u
      have HO := Lib.hid hown
      by_cases hlt : 127 < u
      · rw [dig7_ge (by omega)] at hds
        obtain ⟨d, hd⟩ : ∃ d, u % 128 + 128 = d := ⟨_, rfl⟩
        obtain ⟨q, hq⟩ : ∃ q, u / 128 = q := ⟨_, rfl⟩
        rw [hd, hq] at hds
        have hd1 : d < 256 := by omega
        have hqu : q < u := by omega
        have ed : (u : Int) % 128 + 128 = (d : Int) := by omega
        have eq : (u : Int) / 128 = (q : Int) := by omega
        have M3 : Hid (ds.length + 1 ≤ maxLen) := by show ds.length + 1 ≤ maxLen; simp only [maxLen]; omega
        have HS : Hid ((ds ++ [d]) ++ dig7 q = numB n) := by rw [List.append_assoc]; exact hds
        clear hown hd hq hds
        go_wp2_with (at_builtin; refine wpList_append_cells rfl (.tmp 18) (.tmp 23) 26 rfl w.heap.size Tu8 _ ds.length (ds.map b8) rfl (HO.out.alloc _) (some ⟨_, 0, none⟩) 1 1 [b8 d] rfl (fun h => by cases h) (one_new _ _ _) (b8_one [d]) M3.out (by omega) (Nat.le_trans hbel.size (by simp)) ?_; intro v1 w1 o1 q1 r1 l1)
        have hb1 : Below w.heap.size w w1 := (hbel.alloc hbel.size _).grown q1 (Nat.le_trans hbel.size (by simp)) (fun z hz => (HO.out.lt z hz).1)
        rw [b8_snoc] at o1
        go_roundw
        case rel => exact ⟨q, ds ++ [d], by first | rfl | rw [eq], by omega, by simpa using o1, HS.out, hb1⟩
        case measure => simp [RowKit.intOf]; omega
      · rw [dig7_lt (by omega)] at hds
        have M3 : Hid (ds.length + 1 ≤ maxLen) := by show ds.length + 1 ≤ maxLen; simp only [maxLen]; omega
        have HS := Lib.hid hds
        clear hown hds
        go_wp2_with (at_builtin; refine wpList_append_cells rfl (.tmp 27) (.tmp 30) 26 rfl w.heap.size Tu8 _ ds.length (ds.map b8) rfl (HO.out.alloc _) (some ⟨_, 0, none⟩) 1 1 [b8 u] rfl (fun h => by cases h) (one_new _ _ _) (b8_one [u]) M3.out (by omega) (Nat.le_trans hbel.size (by simp)) ?_; intro v1 w1 o1 q1 r1 l1)
        have hb1 : Below w.heap.size w w1 := (hbel.alloc hbel.size _).grown q1 (Nat.le_trans hbel.size (by simp)) (fun z hz => (HO.out.lt z hz).1)
        rw [b8_snoc] at o1
        go_ret
        exact ⟨_, rfl, by rw [← HS.out]; simpa using o1, hb1⟩
end Go.Proofs.Ytbiggclekgpgeaa
