/- The contract of split.Shares. -/
import Derived.Test.YtkmoibikempieaaSplit1
import Derived.Test.YtkmoibikempieaaGreat
import Derived.Test.YtkmoibikempieaaSplitMay
import Derived.Test.YtkmoibikempieaaSplitSum
namespace Go.Proofs.Ytkmoibikempieaa
open Go Go.RowKit
set_option linter.unusedVariables false

theorem psymm {α : Type} [Inhabited α] {d d' : Array α} {a b : Nat} (h : Sort.PermIn a b d d') : Sort.PermIn a b d' d := ⟨h.1.symm, fun i hi => (h.2.1 i hi).symm, h.2.2.symm⟩

/-- every place is told -/
theorem place_is {N : Nat} {d : Array (Fin (N + 1))} (h : Sort.PermIn 0 (N + 1) (idA N) d) {i : Nat} (hi : i < N + 1) : ∃ q, q < N + 1 ∧ (d[q]!).val = i := by
  refine Classical.byContradiction fun hn => ?_
  have hs : d.size = N + 1 := (psize h).trans (idA_size N)
  have := all_of_perm (psymm h) (by omega) (fun x => x.val ≠ i) (fun q _ hq e => hn ⟨q, hq, e⟩) i (Nat.zero_le _) hi
  exact this (idA_get N i hi)

/-- who got a cent, behind k of them -/
def Gave {N : Nat} (r : Nat → Int) (d : Array (Fin (N + 1))) (k : Nat) (g : Nat → Bool) : Prop :=
  Closed r (N + 1) g ∧ cnt g (N + 1) = k ∧ ∀ i, i < N + 1 → (g i = true ↔ ∃ q, q < k ∧ (d[q]!).val = i)

theorem Gave.start {N : Nat} (r : Nat → Int) (d : Array (Fin (N + 1))) : Gave r d 0 (fun _ => false) :=
  ⟨closed_none _ _, cnt_none fun i hi => rfl, fun i hi => ⟨fun h => (by cases h), fun ⟨q, h, _⟩ => absurd h (Nat.not_lt_zero _)⟩⟩

theorem Gave.step {N : Nat} {r : Nat → Int} {d : Array (Fin (N + 1))} {k : Nat} {g : Nat → Bool} (h : Gave r d k g) (hm : Mgd (ttR r) 0 (N + 1) (idA N) d) (hk : k < N + 1) :
    g (d[k]!).val = false ∧ Gave r d (k + 1) (fun i => if i = (d[k]!).val then true else g i) := by
  obtain ⟨hc, hn, hg⟩ := h
  have hb : (d[k]!).val < N + 1 := (d[k]!).isLt
  have g0 : g (d[k]!).val = false := by
    cases e : g (d[k]!).val with
    | false => rfl
    | true =>
      obtain ⟨q, hq, he⟩ := (hg _ hb).1 e
      have := hm.2 q k (Nat.zero_le _) hq hk
      unfold ttR at this
      rw [he, ahead_iff] at this
      omega
  have best : Best r g (N + 1) (d[k]!).val := ⟨hb, g0, fun i hi hgi => by
    obtain ⟨q, hq, rfl⟩ := place_is hm.1 hi
    have hqk : k ≤ q := Nat.le_of_not_lt fun hlt => by
      rw [(hg _ hi).2 ⟨q, hlt, rfl⟩] at hgi; cases hgi
    cases e : aheadB r (d[q]!).val (d[k]!).val with
    | false => rfl
    | true =>
      rw [ahead_iff] at e
      by_cases e2 : q = k
      · subst e2; omega
      · have := hm.2 k q (Nat.zero_le _) (by omega) hq
        unfold ttR at this
        rw [ahead_iff] at this
        omega⟩
  refine ⟨g0, hc.put best, by rw [cnt_put hb g0, hn], fun i hi => ?_⟩
  show (if i = (d[k]!).val then true else g i) = true ↔ _
  by_cases e : i = (d[k]!).val
  · rw [if_pos e]; exact ⟨fun _ => ⟨k, by omega, e.symm⟩, fun _ => rfl⟩
  · rw [if_neg e, hg i hi]
    exact ⟨fun ⟨q, h1, h2⟩ => ⟨q, by omega, h2⟩, fun ⟨q, h1, h2⟩ => ⟨q, by
      by_cases e2 : q = k
      · subst e2; exact absurd h2.symm e
      · omega, h2⟩⟩

theorem mayS_of {T : Int} {zs : List Int} (h : mayW zs) (hT : okS T) : mayS T zs := ⟨hT, h.1, h.2.1, h.2.2⟩
theorem mayW_of {T : Int} {zs : List Int} (h : mayS T zs) : mayW zs := ⟨h.2.1, h.2.2.1, h.2.2.2⟩

theorem rst_room' {T A : Int} {f : Nat → Int} (hA : 0 < A) (i : Nat) : 0 ≤ rstS T A f i := Int.emod_nonneg _ (by omega)

theorem rowF_ints (f : Nat → Int) (n : Nat) : rowF (Value.int .i64) f n = ((List.range n).map f).map i64v := by
  simp [rowF, i64v]

set_option maxRecDepth 100000 in
set_option maxHeartbeats 8000000 in
theorem shares_no (T : Int) (a : Option Addr) (len cap : Nat) (zs : List Int) (w : World) (hE : Elems w a len zs) (hl : len ≤ 1000) (hm : ¬ mayS T zs) :
    Calls Try.prog 10 #[.int .i64 T, .slice a len cap] w (SharesTo T zs w) := by
  have hc := together_any a len cap zs w hE hl
  by_cases h1 : mayW zs
  · have h2 : ¬ okS T := fun h => hm (mayS_of h1 h)
    have hb := fun W => mayBe_no T W h2
    have HM := Lib.hid hm
    have HW := Lib.hid h1
    clear hm h1 h2
    go_enter Try.func10, Try.ntmps10
    go_wp2_with (first
      | (go_at_call 20; refine Calls.mono hc ?_; rintro e w1 ⟨⟨n, rfl⟩, ⟨h, -⟩ | ⟨-, rfl⟩⟩; exact absurd HW.out h)
      | (go_at_call 21; refine Calls.mono (hb _) ?_; rintro e w1 ⟨rfl, rfl⟩))
    go_ret2
    exact ⟨below_drewN (Below.refl _ _) _, Or.inl ⟨HM.out, rfl⟩⟩
  · have HM := Lib.hid hm
    have HW := Lib.hid h1
    clear hm h1
    go_enter Try.func10, Try.ntmps10
    go_wp2_with (first
      | (go_at_call 20; refine Calls.mono hc ?_; rintro e w1 ⟨⟨n, rfl⟩, ⟨-, rfl⟩ | ⟨h, -⟩⟩; rotate_left; exact absurd h HW.out))
    go_ret2
    exact ⟨below_drewN (Below.refl _ _) _, Or.inl ⟨HM.out, rfl⟩⟩

theorem two_rows {W : World} {B g1 g2 c1 c2 len k : Nat} {f h : Nat → Int} (h1 : W.ownsRow B 2 1 (.slice (some ⟨g1, 0, none⟩) len c1) len (rowF (Value.int .i64) f len))
    (h2 : W.ownsRow 0 45 1 (.slice (some ⟨g2, 0, none⟩) len c2) len (rowF (Value.int .u64) h len)) (hne : g1 ≠ g2) (hk : k < len) (x y : Int) :
    W.cell? ⟨g1, k, none⟩ = some (.int .i64 (f k)) ∧ W.frozen? ⟨g1, k, none⟩ = false ∧ (W.setCell ⟨g1, k, none⟩ (.int .i64 x)).cell? ⟨g2, k, none⟩ = some (.int .u64 (h k)) ∧ (W.setCell ⟨g1, k, none⟩ (.int .i64 x)).frozen? ⟨g2, k, none⟩ = false ∧
    ((W.setCell ⟨g1, k, none⟩ (.int .i64 x)).setCell ⟨g2, k, none⟩ (.int .u64 y)).cell? ⟨g1, k, none⟩ = some (.int .i64 x) ∧
    Hid (((W.setCell ⟨g1, k, none⟩ (.int .i64 x)).setCell ⟨g2, k, none⟩ (.int .u64 y)).ownsRow B 2 1 (.slice (some ⟨g1, 0, none⟩) len c1) len (rowF (Value.int .i64) (fun i => if i = k then x else f i) len)) ∧
    Hid (((W.setCell ⟨g1, k, none⟩ (.int .i64 x)).setCell ⟨g2, k, none⟩ (.int .u64 y)).ownsRow 0 45 1 (.slice (some ⟨g2, 0, none⟩) len c2) len (rowF (Value.int .u64) (fun i => if i = k then y else h i) len)) := by
  have s1 := h1.stored k (.int .i64 x)
  rw [rowF_set] at s1
  have s2 := h2.kept s1.2 (Or.inr (by simp only [Value.ownBlock, ne_eq, Option.some.injEq]; exact Ne.symm hne))
  have s3 := s2.stored k (.int .u64 y)
  rw [rowF_set] at s3
  have s4 := s1.1.kept s3.2 (Or.inr (by simp only [Value.ownBlock, ne_eq, Option.some.injEq]; exact hne))
  refine ⟨rowF_cell h1 hk, h1.frozenAt k, rowF_cell s2 hk, s2.frozenAt k, ?_, s4, s3.1⟩
  have := rowF_cell s4 hk
  rw [if_pos rfl] at this
  exact this

theorem row_next {v : Int → Value} {f : Nat → Int} {n k : Nat} : rowF v (fun i => if i = k then f k else if i < k then f i else 0) n = rowF v (fun i => if i < k + 1 then f i else 0) n :=
  rowF_congr fun i _ => by
    by_cases e : i = k
    · subst e; rw [if_pos rfl, if_pos (by omega)]
    · rw [if_neg e]
      by_cases e2 : i < k
      · rw [if_pos e2, if_pos (by omega)]
      · rw [if_neg e2, if_neg (by omega)]

theorem row_none (f : Nat → Int) (n : Nat) : rowF (Value.int .i64) (fun j => if j < n then f j else 0) n = (ol f (fun _ => false) n).map i64v := by
  rw [← ol_none, ← rowF_ints]
  exact rowF_congr fun i hi => by rw [if_pos hi]

/-- the same, the length by a name -/
theorem greatest_at {N : Nat} (r : Nat → Int) (rb cap L : Nat) (w : World) (HL : Hid (L = N + 1)) (hL0 : L ≤ 1000) (h1 : Hid (∀ i, i < L → w.cell? ⟨rb, i, none⟩ = some (.int .u64 (r i)))) :
    Calls Try.prog 23 #[.slice (some ⟨rb, 0, none⟩) L cap] w fun e w' => ∃ (g : Nat) (d : Array (Fin (N + 1))), e = .returned (.slice (some ⟨g, 0, none⟩) L L) ∧ w.heap.size ≤ g ∧ Below w.heap.size w w' ∧ Hid (∀ j, j < L → w'.cell? ⟨g, j, none⟩ = some (.int .i64 ((d[j]!).val : Int))) ∧ Hid (Mgd (ttR r) 0 (N + 1) (idA N) d) := by
  refine (greatest_walk (N := N) r rb 0 cap L w HL hL0 (fun i hi => by rw [Nat.zero_add]; exact h1.out i hi)).mono ?_
  rintro e w' ⟨g, d, rfl, h2, h3, h4, h5⟩
  have e := HL.out
  subst e
  exact ⟨g, d, rfl, h2, h3, h4, h5⟩

set_option maxRecDepth 100000 in
set_option maxHeartbeats 16000000 in
theorem shares_yes (N : Nat) (T : Int) (b off len cap : Nat) (zs : List Int) (w : World) (HN : Hid (len = N + 1)) (hm : mayS T zs) (hz : Hid (zs.length = len)) (hc : Hid (∀ j, j < len → w.cell? ⟨b, off + j, none⟩ = some (.int .i64 (wgt zs j)))) :
    Calls Try.prog 10 #[.int .i64 T, .slice (some ⟨b, off, none⟩) len cap] w (SharesTo T zs w) := by
  have hsum := mayS_sum hm
  have hn0 := hm.2.1
  rw [hz.out] at hn0 hsum
  have hb : b < w.heap.size := cell_lt (hc.out 0 (by omega))
  have HE : Elems w (some ⟨b, off, none⟩) len zs := ⟨hz.out, fun n hn => by have := hm.2.2.1 n hn; omega, Or.inr ⟨b, off, rfl, hc.out⟩⟩
  have ht := together_any (some ⟨b, off, none⟩) len cap zs w HE (by omega)
  have hy := fun W => mayBe_yes T W hm.1
  have HW : Hid (mayW zs) := mayW_of hm
  have HM := Lib.hid hm
  have CZ : Hid (∀ j, j < len → 0 ≤ wgt zs j ∧ wgt zs j ≤ sumF (wgt zs) len ∧ ∀ W, Below w.heap.size w W → W.cell? ⟨b, off + j, none⟩ = some (.int .i64 (wgt zs j))) := fun j hj => by
    exact ⟨(mayS_wgt hm j).1, sumF_ge (fun i _ => (mayS_wgt hm i).1) hj, fun W hW => old_cell hW (hc.out j hj) hb⟩
  have LB := left_bound (T := T) hsum.1 (show 0 < len by omega)
  obtain ⟨A, hA⟩ : ∃ A, sumF (wgt zs) len = A := ⟨_, rfl⟩
  rw [hA] at CZ hsum LB
  obtain ⟨A0, A1⟩ := hsum
  obtain ⟨T0, T1⟩ := hm.1
  obtain ⟨n0, n1⟩ := hn0
  have HA := Lib.hid hA
  have HLB := Lib.hid LB
  have PQ : Hid (∀ k, k ≤ len → 0 ≤ sumF (quoS T A (wgt zs)) k ∧ sumF (quoS T A (wgt zs)) k ≤ T) := fun k hk => by
    have h1 := sumF_part (f := quoS T A (wgt zs)) (n := len) (k := k) (fun j hj => (quo_bound T0 (CZ.out j hj).1 (CZ.out j hj).2.1 A0).1) hk
    have h3 := LB.1
    unfold leftS at h3
    omega
  have hq := fun (k : Nat) (hk : k < len) W => quotient_any T (wgt zs k) A ⟨T0, T1⟩ (CZ.out k hk).1 (CZ.out k hk).2.1 A0 A1 W
  have HQ := Lib.hid hq
  have hz' := hz.out
  have hA' : sumF (wgt zs) zs.length = A := by rw [hz']; exact hA
  unfold TogTo at ht
  rw [hA'] at ht
  obtain ⟨i1, hi1, hz11, hz12, hz13⟩ := info_parts info_i64
  obtain ⟨i2, hi2, hz21, hz22, hz23⟩ := info_parts info_u64
  have hmx : Hid (len ≤ maxLen) := (show len ≤ maxLen by simp [maxLen]; omega)
  clear hA LB hm hc HE hz' hA' hq
  go_enter Try.func10, Try.ntmps10
  go_wp2_with (first
    | (go_at_call 20; refine Calls.mono ht ?_; rintro e w1 ⟨⟨n, rfl⟩, ⟨h, -⟩ | ⟨-, rfl⟩⟩; exact absurd HW.out h)
    | (go_at_call 21; refine Calls.mono (hy _) ?_; rintro e w1 ⟨rfl, rfl⟩)
    | (at_make; refine wpList_make_full _ rfl _ _ 22 rfl w.heap.size 2 i1 (.int .i64 0) 1 Try.underlying22 hi1 hz11 hz12 .i64 .i64 _ _ len rfl rfl rfl rfl (by rw [hz13]; omega) hmx.out (by simp) ?_; intro w3 o3 q3; rw [made_row (Value.int .i64) len rfl] at o3)
    | (at_make; refine wpList_make_full _ rfl _ _ 34 rfl 0 45 i2 (.int .u64 0) 1 Try.underlying34 hi2 hz21 hz22 .i64 .i64 _ _ len rfl rfl rfl rfl (by rw [hz23]; omega) hmx.out (Nat.zero_le _) ?_; intro w4 o4 q4; rw [made_row (Value.int .u64) len rfl] at o4))
  rw [show (w.drewN n).heap.size = w.heap.size from rfl] at o3
  have B3 : Below w.heap.size w w3 := (below_drewN (Below.refl _ w) n).grown q3 (Nat.le_refl _) (fun k h => by cases h)
  have hg12 : w.heap.size < w3.heap.size := cell_lt (rowF_cell o3 (j := 0) (by omega))
  have hs3 : w.heap.size ≤ w3.heap.size := Nat.le_of_lt hg12
  obtain ⟨g1, hg1⟩ : ∃ q, w.heap.size = q := ⟨_, rfl⟩
  have HG1 : Hid (w.heap.size = g1) := hg1
  rw [hg1] at o3 B3 hg12 hs3 hb CZ
  rw [hg1]
  have HO3 := Lib.hid o3
  have HB3 := Lib.hid B3
  clear o3 q3 B3 hg1 ht hy
  have HO4 : Hid (w4.ownsRow g1 2 1 (.slice (some ⟨g1, 0, none⟩) len len) len (rowF (Value.int .i64) (fun _ => 0) len)) := HO3.out.kept q4 (Or.inr (by simp [Value.ownBlock]))
  have HB4 : Hid (Below g1 w w4) := HB3.out.grown q4 hs3 (fun k h => by cases h)
  obtain ⟨g2, hg2⟩ : ∃ q, w3.heap.size = q := ⟨_, rfl⟩
  rw [hg2] at o4 hg12
  rw [hg2]
  have HP4 := Lib.hid o4
  have HNE : Hid (g1 < g2) := hg12
  clear o4 q4 HO3 HB3 hs3 hg2 hg12 hi1 hi2 hz11 hz12 hz13 hz21 hz22 hz23
  go_wp2_with fail
  go_loopw [10, 36] (fun l i wr => ∃ k : Nat, k ≤ len ∧ i = .int .i64 k ∧ l = .int .i64 (T - sumF (quoS T A (wgt zs)) k) ∧ Hid (wr.ownsRow g1 2 1 (.slice (some ⟨g1, 0, none⟩) len len) len (rowF (Value.int .i64) (fun j => if j < k then quoS T A (wgt zs) j else 0) len)) ∧
    Hid (wr.ownsRow 0 45 1 (.slice (some ⟨g2, 0, none⟩) len len) len (rowF (Value.int .u64) (fun j => if j < k then rstS T A (wgt zs) j else 0) len)) ∧ Hid (Below g1 w wr)) (fun _ i _ => len - (RowKit.intOf i).toNat)
  case atStart => exact ⟨0, Nat.zero_le _, rfl, by simp [sumF], by rw [rowF_congr (g := fun _ => 0) (fun i _ => by simp)]; exact HO4.out, by rw [rowF_congr (g := fun _ => 0) (fun i _ => by simp)]; exact HP4.out, HB4⟩
  case round =>
    clear HO4 HP4 HB4
    obtain ⟨k, hk, rfl, rfl, hO, hP, hB⟩ := hrel
    by_cases hkl : k < len
    · have j1 : (0 : Int) ≤ (k : Int) := by omega
      have j2 : (k : Int) < (len : Int) := by omega
      have cz := (CZ.out k hkl).2.2 wr hB.out
      have hq := HQ.out k hkl
      have p1 := PQ.out k hk
      have p2 := PQ.out (k + 1) hkl
      have qb := quo_bound T0 (CZ.out k hkl).1 (CZ.out k hkl).2.1 A0
      have e1 : sumF (quoS T A (wgt zs)) (k + 1) = sumF (quoS T A (wgt zs)) k + quoS T A (wgt zs) k := rfl
      have eq : quoS T A (wgt zs) k = T * wgt zs k / A := rfl
      have er : rstS T A (wgt zs) k = T * wgt zs k % A := rfl
      rw [e1] at p2
      rw [← eq] at hq qb
      rw [← er] at hq
      have F := fun m => two_rows (W := wr.drewN m) (k := k) (ownsRow_up hO.out (below_drewN (Below.refl _ _) m)) (ownsRow_up hP.out (below_drewN (Below.refl _ _) m)) (Nat.ne_of_lt HNE.out) hkl (quoS T A (wgt zs) k) (rstS T A (wgt zs) k)
      have HBW : Hid (∀ m, Below g1 w (((wr.drewN m).setCell ⟨g1, k, none⟩ (.int .i64 (quoS T A (wgt zs) k))).setCell ⟨g2, k, none⟩ (.int .u64 (rstS T A (wgt zs) k)))) := fun m => ((below_drewN hB.out m).setCell (Nat.le_refl _) _).setCell (Nat.le_of_lt HNE.out) _
      simp only [row_next, Nat.lt_irrefl, if_false] at F
      have HE1 := Lib.hid e1
      clear e1 eq er
      generalize hqq : quoS T A (wgt zs) k = qk at hq p2 qb F HBW HE1
      generalize hrr : rstS T A (wgt zs) k = rk at hq F HBW
      generalize hss : sumF (quoS T A (wgt zs)) k = sk at p1 p2 HE1 ⊢
      clear hqq hrr hss
      generalize wgt zs k = z at cz hq
      have rw1 : IntKind.i64.wrap (T - sk - qk) = T - sk - qk := by rw [IntKind.wrap_i64]; omega
      go_wp2_with (go_at_call 22; refine Calls.mono (hq _) ?_; rintro e w5 ⟨rfl, m, rfl⟩; obtain ⟨f1, f2, f3, f4, f5, f6, f7⟩ := F m)
      go_roundw
      case rel => exact ⟨k + 1, by omega, by go_num, by rw [HE1.out]; congr 1; omega, f6, f7, HBW.out m⟩
      case measure => simp [RowKit.intOf]; omega
    · have j2 : ¬ (k : Int) < (len : Int) := by omega
      obtain rfl : k = len := by omega
      have hlb := HLB.out
      unfold leftS at hlb
      obtain ⟨Lf, hLf⟩ : ∃ q : Nat, T - sumF (quoS T A (wgt zs)) k = (q : Int) := ⟨(T - sumF (quoS T A (wgt zs)) k).toNat, by omega⟩
      rw [hLf] at hlb ⊢
      have HLF : Hid (leftS T A (wgt zs) k = (Lf : Int)) := hLf
      obtain ⟨l1, l2⟩ := hlb
      have l3 : (Lf : Int) ≤ (k : Int) := by omega
      have hgr := greatest_at (N := N) (rstS T A (wgt zs)) g2 k k wr HN (by omega) (fun i hi => by
        have := rowF_cell hP.out hi
        rw [if_pos hi] at this
        exact this)
      have hO' := hO.out
      rw [row_none] at hO'
      have HO := Lib.hid hO'
      have HQB : Hid (∀ i, i < k → 0 ≤ quoS T A (wgt zs) i ∧ quoS T A (wgt zs) i ≤ T) := fun i hi => quo_bound T0 (CZ.out i hi).1 (CZ.out i hi).2.1 A0
      have hg1 : g1 < wr.heap.size := cell_lt (rowF_cell hO.out (j := 0) (by omega))
      clear hLf hO' hO hP hkl j2
      go_wp2_with (go_at_call 23; refine Calls.mono hgr ?_; rintro e w5 ⟨gp, d, rfl, hgp, hB5, hcell, hmg⟩)
      have HO5 := Lib.hid (ownsRow_up HO.out hB5)
      have HB5 : Hid (Below g1 w w5) := hB.out.trans (hB5.mono (Nat.le_of_lt hg1))
      have HNE5 : Hid (g1 ≠ gp) := (show g1 ≠ gp by omega)
      clear hgp hB5 hB HO hg1 hgr
      go_loopw [66] (fun i wx => ∃ q : Nat, q ≤ Lf ∧ i = .int .i64 q ∧ ∃ gg : Nat → Bool, Hid (Gave (rstS T A (wgt zs)) d q gg) ∧ Hid (wx.ownsRow g1 2 1 (.slice (some ⟨g1, 0, none⟩) k k) k ((ol (quoS T A (wgt zs)) gg k).map i64v)) ∧
        Hid (∀ j, j < k → wx.cell? ⟨gp, j, none⟩ = some (.int .i64 ((d[j]!).val : Int))) ∧ Hid (Below g1 w wx)) (fun i _ => Lf - (RowKit.intOf i).toNat)
      case atStart => exact ⟨0, Nat.zero_le _, rfl, _, Gave.start _ _, HO5, hcell, HB5⟩
      case round =>
        clear HO5 hcell HB5
        obtain ⟨q, hq, rfl, gg, hG, hO, hcell, hB⟩ := hrel
        by_cases hql : q < Lf
        · have j1 : (0 : Int) ≤ (q : Int) := by omega
          have j2 : (q : Int) < (Lf : Int) := by omega
          have hN := HN.out
          obtain ⟨g0, G1⟩ := hG.out.step hmg.out (show q < N + 1 by omega)
          have HGV := Lib.hid G1
          have cp := hcell.out q (by omega)
          have pb : (d[q]!).val < k := by have := (d[q]!).isLt; omega
          generalize (d[q]!).val = p at cp pb g0 HGV
          have HG0 := Lib.hid g0
          have qb := HQB.out p pb
          have c1 := row_cell hO.out pb
          rw [ol_get _ _ pb g0] at c1
          have f1 := hO.out.frozenAt p
          have O2 := (hO.out.stored p (.int .i64 (quoS T A (wgt zs) p + 1))).1
          rw [ol_set _ _ _ _ g0] at O2
          have HO2 := Lib.hid O2
          have HC2 : Hid (∀ j, j < k → (wr.setCell ⟨g1, p, none⟩ (.int .i64 (quoS T A (wgt zs) p + 1))).cell? ⟨gp, j, none⟩ = some (.int .i64 ((d[j]!).val : Int))) := fun j hj => by
            rw [World.cell?_setCell_other _ _ _ _ (by intro e; simp only [Addr.mk.injEq] at e; exact HNE5.out e.1)]
            exact hcell.out j hj
          have HB2 : Hid (Below g1 w (wr.setCell ⟨g1, p, none⟩ (.int .i64 (quoS T A (wgt zs) p + 1)))) := hB.out.setCell (Nat.le_refl _) _
          generalize quoS T A (wgt zs) p = x at qb c1 HO2 HC2 HB2
          have i1 : (0 : Int) ≤ (p : Int) := by omega
          have i2 : (p : Int) < (k : Int) := by omega
          have rx : IntKind.i64.wrap (x + 1) = x + 1 := by rw [IntKind.wrap_i64]; omega
          clear G1 g0 O2 hN
          go_wp2_with fail
          go_roundw
          case rel => exact ⟨q + 1, by omega, by go_num, _, HGV, HO2, HC2, HB2⟩
          case measure => simp [RowKit.intOf]; omega
        · have j2 : ¬ (q : Int) < (Lf : Int) := by omega
          obtain rfl : q = Lf := by omega
          have hs := ol_shares (T := T) (zs := zs) (g := gg)
          rw [hz.out, HA.out] at hs
          have g1' := hG.out.1
          have g2' := hG.out.2.1
          rw [← HN.out] at g1' g2'
          have hs2 := hs g1' (by rw [g2', HLF.out]; simp)
          have hfin := hO.out
          rw [hs2] at hfin
          have HF := Lib.hid hfin
          clear hs hs2 hfin g1' g2'
          go_wp2_with fail
          go_ret2
          refine ⟨by rw [HG1.out]; exact hB.out, Or.inr ⟨HM.out, g1, k, by rw [hz.out]; rfl, by rw [HG1.out, hz.out]; exact HF.out⟩⟩

/-- the contract of Shares -/
theorem shares_any : SharesC := by
  intro T a len cap zs w h1 h2 hE hlc hl
  by_cases hm : mayS T zs
  · have hz := hE.1
    have hn := hm.2.1
    rcases hE.2.2 with h0 | ⟨b, off, rfl, hc⟩
    · omega
    · exact shares_yes (len - 1) T b off len cap zs w (show len = len - 1 + 1 by omega) hm hz hc
  · exact shares_no T a len cap zs w hE hl hm
end Go.Proofs.Ytkmoibikempieaa
