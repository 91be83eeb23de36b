/- The contract of split.Even. -/
import Derived.Test.YtkmoibikempieaaSplit
import Derived.Test.YtkmoibikempieaaSplitL2
import Derived.Laws.CopyOwn
import Derived.RegionTactic
namespace Go.Proofs.Ytkmoibikempieaa
open Go Go.RowKit
set_option linter.unusedVariables false

/-- so many ones, then noughts -/
def onesL (n L : Nat) : List Value := rowF (Value.int .i64) (fun i => if i < n then 1 else 0) L

theorem onesL_len (n L : Nat) : (onesL n L).length = L := by simp [onesL, rowF]
theorem onesL_get {n L j : Nat} (h : j < n) (hL : n ≤ L) : (onesL n L)[j]? = some (.int .i64 1) := by
  simp [onesL, rowF, h, show j < L by omega]

theorem onesL_splice {n m L : Nat} (h : n + m ≤ L) : splice (onesL n L) n (List.replicate m (.int .i64 1)) = onesL (n + m) L := by
  unfold splice
  apply List.ext_getElem
  · simp [onesL_len]; omega
  · intro i h1 h2
    simp only [onesL, rowF, List.length_replicate, List.getElem_append, List.length_take, List.length_map, List.length_range, List.getElem_take, List.getElem_map, List.getElem_range, List.getElem_replicate, List.getElem_drop]
    rw [onesL_len] at h2
    by_cases c1 : i < n
    · rw [dif_pos (by omega), if_pos c1, if_pos (by omega)]
    · rw [dif_neg (by omega)]
      by_cases c2 : i < n + m
      · rw [dif_pos (by omega), if_pos c2]
      · rw [dif_neg (by omega), if_neg (by omega), if_neg (by omega)]

theorem onesL_all {L : Nat} : onesL L L = (List.replicate L (1 : Int)).map i64v := by
  apply List.ext_getElem
  · simp [onesL_len]
  · intro i h1 h2
    rw [onesL_len] at h1
    simp [onesL, rowF, i64v, h1]

theorem row_heap {w : World} {B E g n : Nat} {xs : List Value} (h : w.ownsRow B E 1 (.slice (some ⟨g, 0, none⟩) n n) n xs) : w.heap[g]? = some (.cells xs.toArray E (0, 0)) := by
  rcases h.2 with ⟨h', _⟩ | ⟨g', cap, cur, h', _, hg, _, _, hs, ht⟩
  · cases h'
  · simp only [Value.slice.injEq, Option.some.injEq, Addr.mk.injEq, and_true, true_and] at h'
    obtain ⟨rfl, rfl⟩ := h'
    rw [hg, ← ht]
    rw [List.take_of_length_le (by simp [hs])]

theorem heap_cell {w : World} {g j : Nat} {xs : List Value} {E : TypeId} {v : Value} (h : w.heap[g]? = some (.cells xs.toArray E (0, 0))) (hx : xs[j]? = some v) : w.cell? ⟨g, j, none⟩ = some v := by
  simp [World.cell?, h, hx]

theorem size_i64 : (Try.prog.info? 2).map (·.size) = some 1 := by kernel_rfl

theorem add_cell (b j : Nat) : (⟨b, 0, none⟩ : Addr).add j = ⟨b, j, none⟩ := by
  unfold Addr.add; split <;> simp_all
theorem src_one {w : World} {b : Nat} (h : w.cell? ⟨b, 0, none⟩ = some (.int .i64 1)) : ∀ (j : Nat) (v : Value), (List.replicate 1 (Value.int .i64 1))[j]? = some v → w.cell? ((⟨b, 0, none⟩ : Addr).add j) = some v := fun j v hv => by
  rw [List.getElem?_replicate] at hv
  split at hv
  · rw [add_cell, show j = 0 by omega, h]; exact hv
  · cases hv
theorem src_ones {w : World} {g n m L : Nat} (h : w.heap[g]? = some (.cells (onesL n L).toArray 2 (0, 0))) (hm : m ≤ n) (hn : n ≤ L) : ∀ (j : Nat) (v : Value), (List.replicate m (Value.int .i64 1))[j]? = some v → w.cell? ((⟨g, 0, none⟩ : Addr).add j) = some v := fun j v hv => by
  rw [List.getElem?_replicate] at hv
  split at hv
  · rw [add_cell, heap_cell h (onesL_get (show j < n by omega) hn)]; exact hv
  · cases hv
theorem one_cells (m : Nat) : ∀ v ∈ List.replicate m (Value.int .i64 1), v.oneCell' = true := fun v hv => by rw [List.eq_of_mem_replicate hv]; rfl

/-- ones are laid behind ones -/
theorem copy_ones {w w0 : World} {g n m L dl dc sl sc : Nat} {src : Addr} (h : w.heap[g]? = some (.cells (onesL n L).toArray 2 (0, 0))) (hsrc : ∀ (j : Nat) (v : Value), (List.replicate m (Value.int .i64 1))[j]? = some v → w.cell? (src.add j) = some v)
    (hm : m = Nat.min sl dl) (hfit : n + m ≤ L) (hB : Below g w0 w) : ∃ w', (Builtin.copy_ #[22, 22] 3 #[.slice (some ⟨g, n, none⟩) dl dc, .slice (some src) sl sc]).run Try.prog w = .ok (.int .i64 (m : Int)) w' ∧
    Hid (w'.heap[g]? = some (.cells (onesL (n + m) L).toArray 2 (0, 0))) ∧ Hid (Below g w0 w') := by
  have hr := run_copy_row (P := Try.prog) w 22 22 3 2 g n dl dc src sl sc (onesL n L).toArray 2 (List.replicate m (Value.int .i64 1)) Try.underlying22 size_i64 h (by rw [List.length_replicate]; exact hm) hsrc (by simp [onesL_len]; omega) (one_cells m)
  rw [List.length_replicate] at hr
  refine ⟨_, hr, ?_, below_setRow hB (Nat.le_refl _) _⟩
  have := onesL_splice (n := n) (m := m) (L := L) hfit
  unfold splice at this
  rw [List.length_replicate] at this
  rw [show (onesL n L).toArray.toList = onesL n L from rfl, List.append_assoc, this]
  exact setRow_heap w g _ _ _ _ h

theorem made_ones {w w3 : World} {L b0 : Nat} (o3 : w3.ownsRow 0 2 1 (.slice (some ⟨w.heap.size, 0, none⟩) L L) L (rowF (Value.int .i64) (fun _ => 0) L)) (q3 : w.grownBy w3 none) (h0 : w.cell? ⟨b0, 0, none⟩ = some (.int .i64 1)) :
    Hid (w3.heap[w.heap.size]? = some (.cells (onesL 0 L).toArray 2 (0, 0))) ∧ Hid (Below w.heap.size w w3) ∧ Hid (w3.cell? ⟨b0, 0, none⟩ = some (.int .i64 1)) := by
  have HB3 : Below w.heap.size w w3 := (Below.refl _ w).grown q3 (Nat.le_refl _) (fun k h => by cases h)
  have hh := row_heap o3
  rw [rowF_congr (g := fun i => if i < 0 then 1 else 0) (fun i _ => by simp)] at hh
  exact ⟨hh, HB3, old_cell HB3 h0 (cell_lt h0)⟩

set_option maxRecDepth 100000 in
set_option maxHeartbeats 4000000 in
theorem repeat_walk (b0 L : Nat) (w : World) (hL : 1 ≤ L) (hL2 : L ≤ 480) (h0 : w.cell? ⟨b0, 0, none⟩ = some (.int .i64 1)) :
    Calls Try.prog 26 #[.slice (some ⟨b0, 0, none⟩) 1 1, .int .i64 L] w fun e w' => ∃ g, e = .returned (.slice (some ⟨g, 0, none⟩) L L) ∧ Below w.heap.size w w' ∧ Elems w' (some ⟨g, 0, none⟩) L (List.replicate L 1) := by
  obtain ⟨i1, hi1, hz11, hz12, hz13⟩ := info_parts info_i64
  have hmx : L ≤ maxLen := by simp [maxLen]; omega
  have hm := Try.bits_Mul 1 L (by omega) (by omega) w
  rw [Nat.one_mul, Nat.div_eq_of_lt (by omega), Nat.mod_eq_of_lt (by omega)] at hm
  have z1 : (1 : Int) ≤ (L : Int) := by omega
  have z2 : (L : Int) ≤ 480 := by omega
  have hb0 : b0 < w.heap.size := cell_lt h0
  have n1 : ¬ (L : Int) < 0 := by omega
  have n2 : ¬ (9223372036854775807 : Int) < (L : Int) := by omega
  have d1 : decide ((L : Int) < 0) = false := decide_eq_false n1
  have d2 : decide ((9223372036854775807 : Int) < (L : Int)) = false := decide_eq_false n2
  have n3 : (0 : Int) ≤ (L : Int) := by omega
  have n4 : (L : Int) ≤ 9223372036854775807 := by omega
  go_enter Try.func26, Try.ntmps26
  go_wp2_with (first
    | (go_at_call 37; refine Calls.mono hm ?_; rintro e w1 ⟨rfl, rfl⟩)
    | (at_make; refine wpList_make_full _ rfl _ _ 22 rfl 0 2 i1 (.int .i64 0) 1 Try.underlying22 hi1 hz11 hz12 .i64 .i64 _ _ L rfl rfl rfl rfl (by rw [hz13]; omega) hmx (Nat.zero_le _) ?_; intro w3 o3 q3; rw [made_row (Value.int .i64) L rfl] at o3; obtain ⟨HH, HB, HC⟩ := made_ones o3 q3 h0; clear o3 q3))
  obtain ⟨w5, hcp, H5, B5⟩ := copy_ones (m := 1) (sl := 1) (sc := 1) (dl := L) (dc := L) HH.out (src_one HC.out) (Nat.min_eq_left hL).symm (by omega) HB.out
  rw [show 0 + 1 = 1 from rfl] at H5
  simp only [Int.natCast_one] at hcp
  obtain ⟨g, hg⟩ : ∃ q, w1.heap.size = q := ⟨_, rfl⟩
  have HG := Lib.hid hg
  rw [hg] at hcp H5 B5 ⊢
  clear HH HB HC hg hm hmx hi1 hz11 hz12 hz13
  rw [hcp]
  simp only [Result.andThen]
  rw [Oper.upon_value]
  clear hcp
  go_wp2_with fail
  go_loopw [8] (fun s wr => ∃ n : Nat, 1 ≤ n ∧ n ≤ L ∧ s = .int .i64 n ∧ Hid (wr.heap[g]? = some (.cells (onesL n L).toArray 2 (0, 0))) ∧ Hid (Below g w1 wr)) (fun s _ => L - (RowKit.intOf s).toNat)
  case atStart => exact ⟨1, Nat.le_refl _, hL, rfl, H5, B5⟩
  case round =>
    clear H5 B5
    obtain ⟨n, hn1, hn, rfl, hH, hB⟩ := hrel
    by_cases hlt : n < L
    · have j2 : (n : Int) < (L : Int) := by omega
      obtain ⟨m, hm⟩ : ∃ q, q = Nat.min n (L - n) := ⟨_, rfl⟩
      have hm1 : 1 ≤ m := by rw [hm]; exact Nat.le_min.2 ⟨hn1, by omega⟩
      have hm2 : m ≤ n := by rw [hm]; exact Nat.min_le_left _ _
      have hm3 : n + m ≤ L := by have : m ≤ L - n := by rw [hm]; exact Nat.min_le_right _ _
                                 omega
      obtain ⟨w6, hcp, H6, B6⟩ := copy_ones (w := wr.drew) (sl := n) (sc := L) (dl := L - n) (dc := L - n) hH.out (src_ones (w := wr.drew) hH.out hm2 hn) hm hm3 hB.out.drew
      have j3 : (0 : Int) ≤ (n : Int) := by omega
      have j4 : (n : Int) ≤ (L : Int) := by omega
      have j5 : ¬ L = n := by omega
      obtain ⟨nm, hnm⟩ : ∃ q, q = n + m := ⟨_, rfl⟩
      have rnm : IntKind.i64.wrap ((n : Int) + (m : Int)) = (nm : Int) := by rw [IntKind.wrap_i64]; omega
      have HNM : Hid (nm = n + m ∧ 1 ≤ m ∧ n + m ≤ L) := ⟨hnm, hm1, hm3⟩
      rw [← hnm] at H6
      clear hm hm1 hm2 hm3 hnm
      go_wp2_with fail
      go_region
      all_goals
        go_wp2_with fail
        go_roundw
        case rel => have := HNM.out; exact ⟨nm, by omega, by omega, rfl, H6, B6⟩
        case measure => have := HNM.out; simp [RowKit.intOf]; omega
    · have j2 : ¬ (n : Int) < (L : Int) := by omega
      obtain rfl : n = L := by omega
      go_wp2_with fail
      go_ret
      refine ⟨g, rfl, by rw [HG.out]; exact hB.out, List.length_replicate, fun z hz => by rw [List.eq_of_mem_replicate hz]; omega, Or.inr ⟨g, 0, rfl, fun j hj => ?_⟩⟩
      rw [Nat.zero_add, heap_cell hH.out (onesL_get hj (Nat.le_refl _))]
      simp [List.getD, hj]

theorem may_ones {T : Int} {N : Nat} (h1 : 1 ≤ N) (h2 : N ≤ 480) : mayS T (List.replicate N 1) ↔ mayE T N := by
  constructor
  · intro h; exact ⟨h.1.1, h.1.2, by omega, by omega⟩
  · rintro ⟨t1, t2, -, -⟩
    refine ⟨⟨t1, t2⟩, by rw [List.length_replicate]; exact ⟨h1, h2⟩, fun z hz => by rw [List.eq_of_mem_replicate hz]; omega, 1, ?_, by omega⟩
    exact List.mem_replicate.2 ⟨by omega, rfl⟩

theorem even_get {T : Int} {N j : Nat} (hj : j < N) : (sharesL T (List.replicate N 1)).getD j 0 = evenS T N j := by
  rw [sharesL_get _ _ _ (by rw [List.length_replicate]; exact hj)]
  rw [List.length_replicate]
  rw [share_even (fun i hi => by simp [wgt, List.getD, hi]) hj]
  rfl

set_option maxRecDepth 100000 in
set_option maxHeartbeats 4000000 in
/-- the contract of Even -/
theorem even_any : EvenC := by
  intro T n w T1 T2 n1 n2
  by_cases c1 : n < 1
  · have hm : Hid (¬ mayE T n) := fun h => by have := h.2.2.1; omega
    go_enter Try.func14, Try.ntmps14
    go_wp2_with fail
    go_ret2
    exact ⟨Below.refl _ _, Or.inl ⟨hm.out, rfl⟩⟩
  · by_cases c2 : 480 < n
    · have hm : Hid (¬ mayE T n) := fun h => by have := h.2.2.2; omega
      go_enter Try.func14, Try.ntmps14
      go_wp2_with fail
      go_ret2
      exact ⟨Below.refl _ _, Or.inl ⟨hm.out, rfl⟩⟩
    · obtain ⟨N, rfl⟩ : ∃ N : Nat, n = (N : Int) := ⟨n.toNat, by omega⟩
      have hN1 : 1 ≤ N := by omega
      have hN2 : N ≤ 480 := by omega
      have hME := Lib.hid (may_ones (T := T) hN1 hN2)
      have hr := repeat_walk w.heap.size N (w.alloc (Obj.cells #[.int .i64 1] 2)) hN1 hN2 (by simp)
      have hs := fun (g : Nat) (W : World) (hE : Elems W (some ⟨g, 0, none⟩) N (List.replicate N 1)) => shares_any T (some ⟨g, 0, none⟩) N N (List.replicate N 1) W T1 T2 hE (Nat.le_refl _) (by omega)
      have HS := Lib.hid hs
      have HB0 : Hid (Below w.heap.size w (w.alloc (Obj.cells #[.int .i64 1] 2))) := (Below.refl _ _).alloc (Nat.le_refl _) _
      clear hs
      go_enter Try.func14, Try.ntmps14
      go_wp2_with (first
        | (go_at_call 26; refine Calls.mono hr ?_; rintro e w1 ⟨g, rfl, B1, E1⟩; have HE1 := Lib.hid E1; have HB1 := Lib.hid B1; clear E1 B1)
        | (go_at_call 10; refine Calls.mono (HS.out _ _ HE1.out) ?_; rintro e w2 ⟨B2, HR⟩; have HB2 := Lib.hid B2; clear B2; rcases HR with ⟨hno, rfl⟩ | ⟨hok, b, cap, rfl, hown⟩))
      · go_ret2
        refine ⟨?_, Or.inl ⟨fun h => hno (hME.out.2 h), rfl⟩⟩
        have b1 := HB1.out.mono (show w.heap.size ≤ _ by simp)
        exact (HB0.out.trans b1).trans (HB2.out.mono (Nat.le_trans (by simp) b1.size))
      · obtain ⟨a', cap', hv, hE2, hcap, _⟩ := own_ints hown (shares_room hok)
        simp only [Value.slice.injEq] at hv
        obtain ⟨rfl, -, rfl⟩ := hv
        rw [List.length_replicate] at hE2 hcap
        have hc := fun (j : Nat) hj => row_cell hown (j := j) hj
        rw [List.length_replicate] at hc
        have HC := Lib.hid hc
        have HK := Lib.hid hok
        clear hown hE2 hc hok
        go_ret2
        refine ⟨?_, Or.inr ⟨hME.out.1 HK.out, b, cap, by simpa using hcap, by simp, fun j hj => ?_⟩⟩
        · have b1 := HB1.out.mono (show w.heap.size ≤ _ by simp)
          exact (HB0.out.trans b1).trans (HB2.out.mono (Nat.le_trans (by simp) b1.size))
        · simp only [Int.toNat_natCast] at hj
          rw [HC.out j hj, even_get hj]
end Go.Proofs.Ytkmoibikempieaa
