/- The walk of SplitScales. -/
import Derived.Test.YtkmoibikempieaaSplitC
namespace Go.Proofs.Ytkmoibikempieaa
open Go Go.RowKit
set_option linter.unusedVariables false

/-- the first weights, so many times as great -/
def moreL (zs : List Int) (b : Int) (k : Nat) : List Int := (List.range k).map fun j => wgt zs j * b

theorem moreL_succ (zs : List Int) (b : Int) (k : Nat) : moreL zs b (k + 1) = moreL zs b k ++ [wgt zs k * b] := by
  simp [moreL, List.range_succ]

theorem moreL_get {zs : List Int} {b : Int} {k j : Nat} (h : j < k) : wgt (moreL zs b k) j = wgt zs j * b := by
  simp [wgt, moreL, List.getD, h]

theorem moreL_len (zs : List Int) (b : Int) (k : Nat) : (moreL zs b k).length = k := by simp [moreL]

theorem prod_room {z b : Int} (hz : 0 ≤ z) (hz' : z ≤ 10000000000) (hb : 1 ≤ b) (hb' : b ≤ 1000) : 0 ≤ z * b ∧ z * b ≤ 10000000000000 := by
  refine ⟨Int.mul_nonneg hz (by omega), ?_⟩
  have h1 : z * b ≤ z * 1000 := Int.mul_le_mul_of_nonneg_left hb' hz
  omega

theorem moreL_room {zs : List Int} {b : Int} {k : Nat} (h : ∀ j, j < k → 0 ≤ wgt zs j ∧ wgt zs j ≤ 10000000000) (hb : 1 ≤ b) (hb' : b ≤ 1000) : ∀ z ∈ moreL zs b k, 0 ≤ z ∧ z ≤ 10000000000000 := by
  intro z hz
  simp only [moreL, List.mem_map, List.mem_range] at hz
  obtain ⟨i, hi, rfl⟩ := hz
  exact prod_room (h i hi).1 (h i hi).2 hb hb'

theorem mem_wgtL {zs : List Int} {z : Int} (h : z ∈ zs) : ∃ j, j < zs.length ∧ wgt zs j = z := by
  obtain ⟨k, hk, rfl⟩ := List.getElem_of_mem h
  exact ⟨k, hk, by simp [wgt, List.getD, hk]⟩
theorem wgt_memL {zs : List Int} {j : Nat} (h : j < zs.length) : wgt zs j ∈ zs := by
  have : wgt zs j = zs[j] := by simp [wgt, List.getD, h]
  rw [this]; exact List.getElem_mem _

theorem may_scales {T b : Int} {zs : List Int} (h : ∀ j, j < zs.length → 0 ≤ wgt zs j ∧ wgt zs j ≤ 10000000000) (hb : 1 ≤ b) (hb' : b ≤ 1000) : mayS T (moreL zs b zs.length) ↔ mayS T zs := by
  unfold mayS
  rw [moreL_len]
  constructor
  · rintro ⟨h1, h2, _, z, hz, hp⟩
    refine ⟨h1, h2, fun z hz => ?_, ?_⟩
    · obtain ⟨j, hj, rfl⟩ := mem_wgtL hz
      have := h j hj
      omega
    · obtain ⟨j, hj, rfl⟩ := mem_wgtL hz
      rw [moreL_len] at hj
      rw [moreL_get hj] at hp
      refine ⟨wgt zs j, wgt_memL hj, ?_⟩
      have h0 := (h j hj).1
      by_cases e : wgt zs j = 0
      · rw [e] at hp; simp at hp
      · omega
  · rintro ⟨h1, h2, _, z, hz, hp⟩
    refine ⟨h1, h2, moreL_room h hb hb', ?_⟩
    obtain ⟨j, hj, rfl⟩ := mem_wgtL hz
    refine ⟨wgt (moreL zs b zs.length) j, wgt_memL (by rw [moreL_len]; exact hj), ?_⟩
    rw [moreL_get hj]
    exact Int.mul_pos hp (by omega)

theorem shares_scales {T b : Int} {zs : List Int} (hm : mayS T zs) (hb : 1 ≤ b) : sharesL T (moreL zs b zs.length) = sharesL T zs := by
  unfold sharesL
  rw [moreL_len]
  refine List.map_congr_left fun i hi => ?_
  exact share_scales (by omega) (fun j hj => moreL_get hj) (mayS_sum hm).1 (List.mem_range.1 hi)

set_option maxHeartbeats 1000000 in
theorem scales_no (SH : Hid SharesC) (T b : Int) (a : Option Addr) (len cap : Nat) (w : World) (h : 500 < len ∨ (len ≤ 500 ∧ b < 1) ∨ (len ≤ 500 ∧ 1 ≤ b ∧ 1000 < b)) (hm : len ≤ 9223372036854775807) :
    Calls Try.prog 8 #[.int .i64 T, .slice a len cap, .int .i64 b] w fun e w' => e = .returned (.bool true) ∧ Below w.heap.size w w' := by
  rcases h with h | ⟨h, h1⟩ | ⟨h, h1, h2⟩
  all_goals
    first
    | have c : ¬ (500 : Int) < (len : Int) := by omega
    | have c : (500 : Int) < (len : Int) := by omega
    go_enter Try.func8, Try.ntmps8
    go_wp2_with fail
    refine (up03_any SH _).mono ?_
    rintro e w1 ⟨rfl, hb⟩
    go_wp2_with fail
    go_ret
    exact ⟨rfl, hb⟩

theorem i64v_snoc (l : List Int) (d : Int) : l.map i64v ++ [i64v d] = (l ++ [d]).map i64v := by simp

set_option maxHeartbeats 4000000 in
theorem scales_walk (SH : Hid SharesC) (T b : Int) (a : Option Addr) (len cap : Nat) (zs : List Int) (w : World) (hT : -9223372036854775808 ≤ T ∧ T ≤ 9223372036854775807) (h : Elems w a len zs) (hl : len ≤ 500) (hlc : len ≤ cap)
    (hb : 1 ≤ b) (hb' : b ≤ 1000) :
    Calls Try.prog 8 #[.int .i64 T, .slice a len cap, .int .i64 b] w fun e w' => e = .returned (.bool true) ∧ Below w.heap.size w w' := by
  have c : ¬ (500 : Int) < (len : Int) := by omega
  have HE := Lib.hid h
  clear h
  go_enter Try.func8, Try.ntmps8
  go_wp2_with fail
  refine (up03_any SH _).mono ?_
  rintro e w1 ⟨rfl, hb1⟩
  have HB1 := Lib.hid hb1
  have HE1 := Lib.hid (HE.out.up hb1)
  clear hb1
  go_wp2_with fail
  go_loopw [8, 9] (fun v i wr => ∃ k : Nat, k ≤ len ∧ i = .int .i64 k ∧ wr.ownsRow w1.heap.size 2 1 v k ((moreL zs b k).map i64v) ∧ Hid (∀ j, j < k → 0 ≤ wgt zs j ∧ wgt zs j ≤ 10000000000) ∧ Below w1.heap.size w1 wr) (fun _ i _ => len - (RowKit.intOf i).toNat)
  case atStart => exact ⟨0, Nat.zero_le _, rfl, World.ownsRow_nil _ _ _ _, fun j hj => absurd hj (Nat.not_lt_zero _), Below.refl _ _⟩
  case round =>
    obtain ⟨k, hk, rfl, hown, hin, hbel⟩ := hrel
    have HO := Lib.hid hown
    clear hown
    by_cases hlt : k < len
    · rcases HE1.out.2.2 with h0 | ⟨x, o, rfl, hc⟩
      · omega
      have k0 : (0 : Int) ≤ (k : Int) := by omega
      have k1 : (k : Int) < (len : Int) := by omega
      have z1 := old_cell hbel (hc k hlt) (cell_lt (hc k hlt))
      obtain ⟨z, hz⟩ : ∃ z, wgt zs k = z := ⟨_, rfl⟩
      have hz2 : zs.getD k 0 = z := hz
      rw [hz2] at z1
      have HZ := Lib.hid hz
      have HBL := Lib.hid hbel
      clear hz hz2 hc
      by_cases h1 : z < 0
      · go_wp2_with fail
        go_ret
        exact ⟨rfl, HB1.out.trans (HBL.out.mono HB1.out.size)⟩
      · by_cases h2 : 10000000000 < z
        · go_wp2_with fail
          go_ret
          exact ⟨rfl, HB1.out.trans (HBL.out.mono HB1.out.size)⟩
        · obtain ⟨p0, p1⟩ := prod_room (z := z) (b := b) (by omega) (by omega) hb hb'
          obtain ⟨p, hp⟩ : ∃ p, z * b = p := ⟨_, rfl⟩
          rw [hp] at p0 p1
          have hw : wrap64 (z * b) = p := by rw [hp]; unfold wrap64; omega
          have HP : Hid (wgt zs k * b = p) := by rw [HZ.out]; exact hp
          have M3 : Hid (k + 1 ≤ maxLen) := by show k + 1 ≤ maxLen; simp only [maxLen]; omega
          have hin' : Hid (∀ j, j < k + 1 → 0 ≤ wgt zs j ∧ wgt zs j ≤ 10000000000) := fun j hj => by
            by_cases e : j = k
            · subst e; rw [HZ.out]; omega
            · exact hin.out j (by omega)
          clear hp
          go_wp2_with (at_builtin; refine wpList_append_cells rfl (.tmp 46) (.tmp 53) 22 rfl w1.heap.size Ti64 _ k ((moreL zs b k).map i64v) rfl (HO.out.alloc _) (some ⟨_, 0, none⟩) 1 1 [i64v p] rfl (fun h => by cases h) (ownsRow_cells (World.ownsRow_lit (base := 0) (e := 2) _ #[.int .i64 p] 1 (Nat.zero_le _) (by decide) rfl)) (by simp [i64v, Value.oneCell']) M3.out (by omega) (Nat.le_trans HBL.out.size (by simp)) ?_; intro v1 w2 o1 q1 r1 l1)
          have hb2 : Below w1.heap.size w1 w2 := (HBL.out.alloc HBL.out.size _).grown q1 (Nat.le_trans HBL.out.size (by simp)) (fun z hz => (HO.out.lt z hz).1)
          rw [i64v_snoc, ← HP.out, ← moreL_succ] at o1
          go_roundw
          case rel => exact ⟨k + 1, by omega, by go_num, o1, hin', hb2⟩
          case measure => simp [RowKit.intOf]; omega
    · obtain rfl : k = len := by omega
      have hz : zs.length = k := HE1.out.1
      have HR := Lib.hid (moreL_room hin.out hb hb')
      obtain ⟨am, cm, rfl, hem, hcm, -⟩ := own_ints HO.out (fun z hz => by have := HR.out z hz; omega)
      have HEM := Lib.hid hem
      have HBL := Lib.hid hbel
      have MS : Hid (mayS T (moreL zs b k) ↔ mayS T zs) := by rw [← hz]; exact may_scales (by rw [hz]; exact hin.out) hb hb'
      clear hem hbel HO
      have e0 : (0 : Int) = 0 := rfl
      go_wp2_with fail
      refine (SH.out T a k cap zs _ hT.1 hT.2 (HE1.out.up HBL.out) hlc (by omega)).mono ?_
      rintro e w2 ⟨hb2, ⟨hn, rfl⟩ | ⟨hok, b2, cap2, rfl, hown2⟩⟩
      · have HB2 := Lib.hid hb2
        have HN := Lib.hid hn
        clear hb2 hn
        go_wp2_with fail
        refine (SH.out T am k cm (moreL zs b k) _ hT.1 hT.2 (HEM.out.up HB2.out) hcm (by omega)).mono ?_
        rintro e w3 ⟨hb3, ⟨-, rfl⟩ | ⟨hok, -⟩⟩
        · have HB3 := Lib.hid (HB1.out.trans (((HBL.out.trans (HB2.out.mono HBL.out.size)).trans (hb3.mono (Nat.le_trans HBL.out.size HB2.out.size))).mono HB1.out.size))
          clear hb3
          go_wp2_with fail
          go_quiet ((go_at_call 12; exact Calls.quiet_of (same_nil _)))
          go_wp2_with fail
          go_ret
          exact ⟨rfl, below_drewN HB3.out _⟩
        · exact absurd (MS.out.1 hok) HN.out
      · have HB2 := Lib.hid hb2
        have HK := Lib.hid hok
        have HE2 := Lib.hid (row_elems' hown2 (shares_room hok))
        rw [hz] at HE2 ⊢
        clear hb2 hok hown2
        go_wp2_with fail
        refine (SH.out T am k cm (moreL zs b k) _ hT.1 hT.2 (HEM.out.up HB2.out) hcm (by omega)).mono ?_
        rintro e w3 ⟨hb3, ⟨hn, -⟩ | ⟨hok, b3, cap3, rfl, hown3⟩⟩
        · exact absurd (MS.out.2 HK.out) hn
        · have HE3 := row_elems' hown3 (shares_room hok)
          rw [moreL_len] at HE3 ⊢
          rw [← hz, shares_scales HK.out hb, hz] at HE3
          have HE4 := Lib.hid HE3
          have HE5 := Lib.hid (HE2.out.up hb3)
          have HB3 := Lib.hid (HB1.out.trans (((HBL.out.trans (HB2.out.mono HBL.out.size)).trans (hb3.mono (Nat.le_trans HBL.out.size HB2.out.size))).mono HB1.out.size))
          clear hb3 hok hown3 HE3 hz
          go_wp2_with fail
          go_quiet ((go_at_call 12; exact Calls.quiet_of (same_eq _ _ k _ _ (sharesL T zs) _ (HE5.out.drewN _) (HE4.out.drewN _) (by omega))))
          go_wp2_with fail
          go_ret
          exact ⟨rfl, below_drewN HB3.out _⟩

theorem splitScales_walk (SH : Hid SharesC) (T b : Int) (a : Option Addr) (len cap : Nat) (zs : List Int) (w : World) (hT : -9223372036854775808 ≤ T ∧ T ≤ 9223372036854775807) (h : IsRow .i64 w a len cap zs) :
    Calls Try.prog 8 #[.int .i64 T, .slice a len cap, .int .i64 b] w fun e w' => e = .returned (.bool true) ∧ Below w.heap.size w w' := by
  obtain ⟨h1, h2, h3⟩ := row_elems h
  have h4 : len ≤ 9223372036854775807 := by simp [maxLen] at h3; omega
  by_cases c1 : 500 < len
  · exact scales_no SH T b a len cap w (Or.inl c1) h4
  · by_cases c2 : b < 1
    · exact scales_no SH T b a len cap w (Or.inr (Or.inl ⟨by omega, c2⟩)) h4
    · by_cases c3 : 1000 < b
      · exact scales_no SH T b a len cap w (Or.inr (Or.inr ⟨by omega, by omega, c3⟩)) h4
      · exact scales_walk SH T b a len cap _ w hT h1 (by omega) h2 (by omega) (by omega)
end Go.Proofs.Ytkmoibikempieaa
