/- The walk of JournalStays: records that are handed in stay as they are, and aren't kept; what was told stays. -/
import Derived.Test.YtehfbafocbcfnaaJrnK
import Derived.Test.YtehfbafocbcfnaaMine
namespace Go.Proofs.Ytehfbafocbcfnaa
open Go Go.RowKit
set_option linter.unusedVariables false

theorem Mine.only2 {B U m : Nat} {a : Option Addr} {w w' : World} {X : Nat → Prop} (h : Mine B U a m w) (ho : Only X w w') (hX : ∀ k, B ≤ k → k < U → ¬ X k) : Mine B U a m w' := by
  refine ⟨Nat.le_trans h.1 ho.size, ?_⟩
  rcases h.2 with h2 | ⟨g, off, rfl, hB, hU, hc⟩
  · exact Or.inl h2
  · have hlt : g < w.heap.size := Nat.lt_of_lt_of_le hU h.1
    have hb := ho.block g hlt (hX g hB hU)
    refine Or.inr ⟨g, off, rfl, hB, hU, fun j hj => ⟨?_, ?_⟩⟩
    · obtain ⟨x, hx⟩ := (hc j hj).1
      exact ⟨x, by rw [World.cell?_of_block (w := w) hb]; exact hx⟩
    · rw [World.frozen?_of_block (w := w) hb]; exact (hc j hj).2

/-- one record of one's own, laid open -/
theorem own_one {B : Nat} {v : Value} {b : List Nat} {w : World} (h : OwnRecs B v [b] w) (hb : 1 ≤ b.length) :
    ∃ g c ib ic, v = .slice (some ⟨g, 0, none⟩) 1 c ∧ w.cell? ⟨g, 0, none⟩ = some (.slice (some ⟨ib, 0, none⟩) b.length ic) ∧ w.ownsRow B 5 1 (.slice (some ⟨ib, 0, none⟩) b.length ic) b.length (b.map b8) ∧ g ≠ ib ∧ B ≤ g ∧ g < w.heap.size ∧ B ≤ ib ∧ ib < w.heap.size := by
  obtain ⟨vs, h1, h2⟩ := h
  obtain ⟨g, c, rfl, hg1, hg2⟩ := h1.form (by simp)
  obtain ⟨q1, q2⟩ := h2 0 (by simp)
  simp only [List.getD, List.getElem?_cons_zero, Option.getD_some] at q1 q2
  have hvl : vs.length = 1 := by have := h1.1; simpa using this
  obtain ⟨y, rfl⟩ : ∃ y, vs = [y] := by
    match vs, hvl with
    | [y], _ => exact ⟨y, rfl⟩
  simp only [List.getElem?_cons_zero, Option.getD_some] at q1 q2
  obtain ⟨ib, ic, rfl, hi1, hi2⟩ := q1.form (by omega)
  have hc := h1.cellAt 0 (by simp)
  refine ⟨g, c, ib, ic, rfl, by simpa using hc, q1, fun e => q2 ib rfl (by rw [e]; rfl), hg1, hg2, hi1, hi2⟩

section
variable {D : Nat → (Nat → Prop) → Addr → Dsk → World → Prop} {J : Nat → (Nat → Prop) → Addr → Addr → Jr → World → Prop}

set_option maxRecDepth 100000 in
set_option maxHeartbeats 16000000 in
theorem journalStays_walk (DC : Hid (DiskC D)) (JC : Hid (JrnC D J)) (a : Option Addr) (m c : Nat) (bs : List Nat) (w : World) (hb : Cells w a m (bs.map b8)) (h256 : ∀ x ∈ bs, x < 256) (hc : m ≤ c) (hm : c ≤ maxLen) (hn : a = none → c = 0) :
    Calls Try.prog 6 #[.slice a m c] w fun e w' => e = .returned (.bool true) ∧ Below w.heap.size w w' := by
  have HB := Lib.hid hb
  have H256 := Lib.hid h256
  have HM := Lib.hid hm
  have HNIL := Lib.hid hn
  have HL : Hid (bs.length = m) := by have := hb.1; rw [List.length_map] at this; exact this
  clear hb h256 hm hn
  go_enter Try.func6, Try.ntmps6
  go_wp2_with fail
  refine (up08_any DC JC _).mono ?_
  rintro e w1 ⟨rfl, hb1⟩
  have HB1 := Lib.hid hb1
  clear hb1
  by_cases hbig : m < 1 ∨ (1 ≤ m ∧ 200 < m)
  · rcases hbig with h | ⟨h, h'⟩
    · have t1 : (m : Int) < 1 := by omega
      go_wp2_with fail
      go_ret
      exact ⟨rfl, HB1.out⟩
    · have t1 : ¬ (m : Int) < 1 := by omega
      have t2 : (200 : Int) < (m : Int) := by omega
      go_wp2_with fail
      go_ret
      exact ⟨rfl, HB1.out⟩
  have hm1 : 1 ≤ m := by omega
  have hm2 : m ≤ 200 := by omega
  have t1 : ¬ (m : Int) < 1 := by omega
  have t2 : (m : Int) ≤ 200 := by omega
  clear hbig
  go_wp2_with fail
  refine (DC.out.new 8 _ (by unfold i64d; omega)).mono ?_
  rintro e w2 ⟨hb2, ⟨-, -, d, F1, rfl, hD1, hF1⟩ | ⟨h, -⟩⟩
  rotate_left
  · omega
  have H1 : Hid (DH D 8 d (Dsk.zero 8) (fun _ => False) w w2) := ⟨⟨F1, hD1, fun k hk => Nat.le_trans HB1.out.size (hF1 k hk), fun _ _ h => h⟩, fun _ h => h.elim, HB1.out.trans (hb2.mono HB1.out.size)⟩
  clear hD1 hF1 hb2
  go_wp2_with fail
  refine (H1.out.open' JC.out (fun _ h => h.elim) (Dsk.byt_zero 8)).mono ?_
  rintro e w3 ⟨j, rfl, hj, -⟩
  rw [((good_zero 8).open').1, ((good_zero 8).open').2] at hj
  have H2 := Lib.hid hj
  have HO2 : Hid ((w3.alloc (Obj.cells #[] 5)).ownsRow w3.heap.size 5 1 (.slice (some ⟨w3.heap.size, 0, none⟩) 0 0) 0 (([] : List Nat).map b8)) := World.ownsRow_lit (base := w3.heap.size) (e := 5) (size := 1) w3 #[] 0 (Nat.le_refl _) (by decide) rfl
  have HT2 : Hid (Below w3.heap.size w3 (w3.alloc (Obj.cells #[] 5))) := (Below.refl _ _).alloc (Nat.le_refl _) _
  have HC2 := Lib.hid (HB.out.upB (H2.out.below.trans (HT2.out.mono H2.out.below.size)))
  have M2 : Hid (0 + m ≤ maxLen) := by show 0 + m ≤ maxLen; simp only [maxLen]; omega
  have M3 : Hid ((0 + m) * 1 ≤ 140737488355328) := by show (0 + m) * 1 ≤ 140737488355328; omega
  have HNB : Hid (0 + m = m) := Nat.zero_add m
  clear hj H1
  go_wp2_with (at_builtin; refine wpList_append_cells rfl (.tmp 46) (.tmp 47) 27 rfl w3.heap.size Tu8 (.slice (some ⟨w3.heap.size, 0, none⟩) 0 0) 0 (([] : List Nat).map b8) rfl HO2.out a m c (bs.map b8) rfl HNIL.out HC2.out (b8_one _) M2.out M3.out (by simp) ?_; intro v4 w4 o4 q4 x4 l4; rw [b8_append, List.nil_append, HNB.out] at o4; have HT4 := Lib.hid (HT2.out.grown q4 (by simp) (fun z hz => (HO2.out.lt z hz).1)); obtain ⟨a4, c4, rfl, hcl4, -, hc4, hB4⟩ := own_bytes o4; have HO4 := Lib.hid o4; have HC4 := Lib.hid hcl4; have HG4 := Lib.hid hB4; clear o4 hcl4 hB4)
  have H4 : Hid (JH D J 8 d j (Dsk.zero 8) ⟨[], 0, false⟩ (fun k => w3.heap.size ≤ k ∧ k < w4.heap.size) w w4) := H2.out.own DC.out JC.out (Only.of_below HT4.out) fun k hk => Or.inr hk.1
  have HMI : Hid (Mine2 (fun k => w3.heap.size ≤ k ∧ k < w4.heap.size) w a4 m) := fun x hx => by
    rcases HC4.out.2 with h0 | ⟨b', off, e, hcc⟩
    · exact Or.inl h0
    · have h2 := HG4.out x hx
      rw [hx] at e
      cases e
      have := cell_lt (hcc 0 (by omega))
      exact Or.inr (Or.inl ⟨h2, this⟩)
  refine (H4.out.append JC.out (fun k hk => hk.2) a4 m c4 bs HC4.out HMI.out H256.out hc4 (own_cap HO4.out).2).mono ?_
  have hmay : mayN 8 ⟨[], 0, false⟩ bs = 0 := by
    unfold mayN
    rw [if_neg (by simp), if_neg (by rw [HL.out]; omega), if_neg]
    unfold freeN
    rw [HL.out]; simp; omega
  rintro e w5 ⟨s5, r5, rfl, hj5, hlets, ⟨-, rfl, rfl⟩ | ⟨h, -⟩⟩
  rotate_left
  · exact absurd hmay h
  rw [hmay, show errv ((0 : Nat) : Int) = .nilIface from rfl]
  have H5 := Lib.hid hj5
  obtain ⟨X, ho5, hX5, hX5b⟩ := hlets
  have HM5 : Hid (Mine w3.heap.size w4.heap.size a4 m w5) := (Mine.of_own HO4.out).only2 ho5 fun k hk hk2 hx => hX5 k hx ⟨hk, hk2⟩
  have hcl5 : Cells w5 a4 m (bs.map b8) := cells_keep HC4.out (fun x hx => (HMI.out x hx).imp id fun h hx => h.elim (fun hk => hX5 _ hx hk) fun hk => by have := hX5b _ hx; omega) ho5
  have rs1 : (convert 27 9 (.slice a4 m c4)).run Try.prog w5 = .ok (.string (strB bs)) w5 := run_str_row hcl5
  have rs2 : (convert 27 9 (.slice a m c)).run Try.prog w5 = .ok (.string (strB bs)) w5 := run_str_row (HB.out.upB H5.out.below)
  have hst : ((strB bs).toList == (strB bs).toList) = true := strB_same _
  have HK4 : Hid (w3.heap.size ≤ w4.heap.size ∧ w4.heap.size ≤ w5.heap.size) := ⟨HT4.out.size, ho5.size⟩
  clear hj5 ho5 hX5 hX5b hcl5 hmay HO4 HC4 HT4 HO2 HT2 HC2 HMI
  go_wp2_with fail
  clear rs1 rs2
  go_loopw [11] (fun i wr => ∃ (l : Nat), l ≤ m ∧ i = .int .i64 (l : Int) ∧ Hid (Mine w3.heap.size w4.heap.size a4 m wr) ∧ Hid (Only (fun k => w3.heap.size ≤ k ∧ k < w4.heap.size) w5 wr)) (fun i _ => m - (RowKit.intOf i).toNat)
  case atStart => exact ⟨0, by omega, rfl, HM5, Only.refl _ _⟩
  case round =>
    obtain ⟨l, hl, rfl, hmi, hO⟩ := hrel
    by_cases hlt : l < m
    · obtain ⟨g, off, x, rfl, hg1, hg2, hcc, hff⟩ := hmi.out.get hlt
      have t6 : (l : Int) < (m : Int) := by omega
      have t7 : (0 : Int) ≤ (l : Int) := by omega
      go_wp2_with fail
      go_roundw
      case rel => exact ⟨l + 1, by omega, by go_num, hmi.out.set hlt _, hO.out.setCell ⟨hg1, hg2⟩ _⟩
      case measure => simp [RowKit.intOf]; omega
    · obtain rfl : m = l := by omega
      have H6 : Hid (JH D J 8 d j (stgS (Dsk.zero 8) ⟨[], 0, false⟩ bs 4) (stgR ⟨[], 0, false⟩ bs 4) (fun k => w3.heap.size ≤ k ∧ k < w4.heap.size) w wr) := H5.out.own DC.out JC.out hO.out fun k hk => Or.inl hk
      have hR1 : (stgR ⟨[], 0, false⟩ bs 4).recs = [bs] := rfl
      obtain ⟨W6, hW6⟩ : ∃ W6, W6 = wr := ⟨_, rfl⟩
      subst hW6
      clear hlt hmi hO HM5 H5
      go_wp2_with fail
      refine (H6.out.records DC.out JC.out).mono ?_
      rintro e w7 ⟨v7, rfl, hown, hj7, hb7⟩
      rw [hR1] at hown
      obtain ⟨rg, rc, ib, ic, rfl, hcell, hrow, hne, hg1, hg2, hi1, hi2⟩ := own_one hown (by rw [HL.out]; omega)
      rw [HL.out] at hcell hrow
      have H7 : Hid (JH D J 8 d j (stgS (Dsk.zero 8) ⟨[], 0, false⟩ bs 4) (stgR ⟨[], 0, false⟩ bs 4) (fun k => W6.heap.size ≤ k ∧ k < w7.heap.size) w w7) := H6.out.own DC.out JC.out (Only.of_below hb7) fun k hk => Or.inr hk.1
      have HMR := Lib.hid (Mine.of_own hrow)
      have hcl7 : Cells w7 (some ⟨ib, 0, none⟩) m (bs.map b8) := ownsRow_cells hrow
      have HT1 : Hid (∀ W', Below w7.heap.size w7 W' → (convert 27 9 (.slice (some ⟨ib, 0, none⟩) m ic)).run Try.prog W' = .ok (.string (strB bs)) W') := fun W' h => run_str_row (hcl7.upB h)
      have HT2 : Hid (∀ W', Below w7.heap.size w7 W' → (convert 27 9 (.slice a m c)).run Try.prog W' = .ok (.string (strB bs)) W') := fun W' h => run_str_row ((HB.out.upB H7.out.below).upB h)
      have HC1 : Hid (∀ W', Below w7.heap.size w7 W' → W'.cell? ⟨rg, 0, none⟩ = some (.slice (some ⟨ib, 0, none⟩) m ic)) := fun W' h => by rw [h.cell (p := ⟨rg, 0, none⟩) hg2]; exact hcell
      have HW : Hid (Below w7.heap.size w7 w7.drew) := Below.drew (Below.refl _ _)
      clear hown hj7 hb7 hcell hrow hcl7 H6
      go_wp2_with fail
      go_region_held3 (fun w' => (convert 27 9 (.slice (some ⟨ib, 0, none⟩) m ic)).run Try.prog w' = .ok (.string (strB bs)) w' ∧ (convert 27 9 (.slice a m c)).run Try.prog w' = .ok (.string (strB bs)) w' ∧ w'.cell? ⟨rg, 0, none⟩ = some (.slice (some ⟨ib, 0, none⟩) m ic))
        (first | exact ⟨HT1.out _ HW.out, HT2.out _ HW.out, HC1.out _ HW.out⟩ | assumption) (fail)
      go_wp2_with fail
      go_loopw [13] (fun i wr => ∃ (p : Nat), p ≤ m ∧ i = .int .i64 (p : Int) ∧ Hid (Mine W6.heap.size w7.heap.size (some ⟨ib, 0, none⟩) m wr) ∧ Hid (Only (fun k => k = ib) w7 wr)) (fun i _ => m - (RowKit.intOf i).toNat)
      case atStart => exact ⟨0, by omega, rfl, HMR.out.up HW.out, (Only.refl _ _).drew⟩
      case round =>
        obtain ⟨p, hp, rfl, hmi, hO⟩ := hrel
        have hcr : wr.cell? ⟨rg, 0, none⟩ = some (.slice (some ⟨ib, 0, none⟩) m ic) := by
          rw [World.cell?_of_block (w := w7) (hO.out.block rg hg2 hne)]; exact HC1.out _ (Below.refl _ _)
        by_cases hlt : p < m
        · obtain ⟨g, off, x, he, hq1, hq2, hcc, hff⟩ := hmi.out.get hlt
          cases he
          have t6 : (p : Int) < (m : Int) := by omega
          have t7 : (0 : Int) ≤ (p : Int) := by omega
          have hset := fun x => hmi.out.set hlt x
          have hon : ∀ x, Only (fun k => k = ib) w7 (wr.setCell ⟨ib, 0 + p, none⟩ (.int .u8 x)) := fun x => hO.out.setCell rfl _
          simp only [Nat.zero_add] at hcc hff hset hon
          have HSET := Lib.hid hset
          have HON := Lib.hid hon
          clear hset hon
          go_wp2_with fail
          go_region
          go_wp2_with fail
          exact ⟨⟨p + 1, by omega, by go_num, (HSET.out _).up (Below.drew (Below.refl _ _)), (HON.out _).drew⟩, by simp [RowKit.intOf]; omega⟩
        · obtain rfl : m = p := by omega
          have H8 : Hid (JH D J 8 d j (stgS (Dsk.zero 8) ⟨[], 0, false⟩ bs 4) (stgR ⟨[], 0, false⟩ bs 4) (fun k => W6.heap.size ≤ k ∧ k < w7.heap.size) w wr) := H7.out.own DC.out JC.out (hO.out.mono fun k _ hk => hk ▸ ⟨hi1, hi2⟩) fun k hk => Or.inl hk
          go_wp2_with fail
          refine (H8.out.records DC.out JC.out).mono ?_
          rintro e w9 ⟨v9, rfl, hown, hj9, hb9⟩
          rw [hR1] at hown
          obtain ⟨rg9, rc9, ib9, ic9, rfl, hcell, hrow, -, hg91, hg92, -, -⟩ := own_one hown (by rw [HL.out]; omega)
          rw [HL.out] at hcell hrow
          have HJ := Lib.hid hj9
          have hcl9 : Cells w9 (some ⟨ib9, 0, none⟩) m (bs.map b8) := ownsRow_cells hrow
          have HT1 : Hid (∀ W', Below w9.heap.size w9 W' → (convert 27 9 (.slice (some ⟨ib9, 0, none⟩) m ic9)).run Try.prog W' = .ok (.string (strB bs)) W') := fun W' h => run_str_row (hcl9.upB h)
          have HT2 : Hid (∀ W', Below w9.heap.size w9 W' → (convert 27 9 (.slice a m c)).run Try.prog W' = .ok (.string (strB bs)) W') := fun W' h => run_str_row ((HB.out.upB HJ.out.below).upB h)
          have HC1 : Hid (∀ W', Below w9.heap.size w9 W' → W'.cell? ⟨rg9, 0, none⟩ = some (.slice (some ⟨ib9, 0, none⟩) m ic9)) := fun W' h => by rw [h.cell (p := ⟨rg9, 0, none⟩) hg92]; exact hcell
          have HW : Hid (Below w9.heap.size w9 w9.drew) := Below.drew (Below.refl _ _)
          clear hown hj9 hb9 hcell hrow hcl9 H8
          go_wp2_with fail
          go_region_held3 (fun w' => (convert 27 9 (.slice (some ⟨ib9, 0, none⟩) m ic9)).run Try.prog w' = .ok (.string (strB bs)) w' ∧ (convert 27 9 (.slice a m c)).run Try.prog w' = .ok (.string (strB bs)) w' ∧ w'.cell? ⟨rg9, 0, none⟩ = some (.slice (some ⟨ib9, 0, none⟩) m ic9))
            (first | exact ⟨HT1.out _ HW.out, HT2.out _ HW.out, HC1.out _ HW.out⟩ | assumption) (fail)
          go_wp2_with fail
          go_ret
          exact ⟨by first | rfl | simp, Below.drew HJ.out.below⟩
end
end Go.Proofs.Ytehfbafocbcfnaa
