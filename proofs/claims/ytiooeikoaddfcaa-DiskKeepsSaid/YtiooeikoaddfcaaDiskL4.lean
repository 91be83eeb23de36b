/- The walk of DiskStays: bytes that are handed in stay as they are, and aren't kept; what was told stays. -/
import Derived.Test.YtiooeikoaddfcaaDiskUp
import Derived.Test.YtiooeikoaddfcaaDiskKeep
import Derived.Test.YtiooeikoaddfcaaMine
namespace Go.Proofs.Ytiooeikoaddfcaa
open Go Go.RowKit
set_option linter.unusedVariables false

theorem Cells.only {w w' : World} {a : Option Addr} {n : Nat} {vs : List Value} {F : Nat → Prop} (h : Cells w a n vs) (ho : Only F w w') (hF : ∀ x, a = some x → ¬ F x.block) : Cells w' a n vs := by
  refine ⟨h.1, ?_⟩
  rcases h.2 with h0 | ⟨b, off, e, hc⟩
  · exact Or.inl h0
  · refine Or.inr ⟨b, off, e, fun j hj => ?_⟩
    rw [World.cell?_of_block (w := w) (ho.block b (cell_lt (hc j hj)) (hF _ e))]
    exact hc j hj
theorem Mine.only {B U m : Nat} {a : Option Addr} {w w' : World} {F : Nat → Prop} (h : Mine B U a m w) (ho : Only F w w') (hF : ∀ k, B ≤ k → k < U → ¬ F k) : Mine B U a m w' := by
  refine ⟨Nat.le_trans h.1 ho.size, ?_⟩
  rcases h.2 with h0 | ⟨g, off, e, hB, hU, hc⟩
  · exact Or.inl h0
  · have hb := ho.block g (Nat.lt_of_lt_of_le hU h.1) (hF g hB hU)
    refine Or.inr ⟨g, off, e, hB, hU, fun j hj => ⟨?_, ?_⟩⟩
    · obtain ⟨x, hx⟩ := (hc j hj).1
      exact ⟨x, by rw [World.cell?_of_block (w := w) hb]; exact hx⟩
    · rw [World.frozen?_of_block (w := w) hb]; exact (hc j hj).2

theorem write_read {s : Dsk} (hs : s.nw.length = 64 * s.di.length) (p : Nat) (b : List Nat) (hp : p + b.length ≤ 64 * s.di.length) : ((s.write p b).nw.drop p).take b.length = b := by
  have hl : ((s.write p b).nw).length = 64 * s.di.length := by simp only [Dsk.write, putN_len]; exact hs
  refine List.ext_getElem (by rw [List.length_take, List.length_drop, hl]; omega) fun i hi1 hi2 => ?_
  rw [elem_getD hi1, elem_getD hi2, slice_get _ _ _ _ hi2]
  simp only [Dsk.write]
  rw [putN_get _ _ _ _ (by omega), if_pos ⟨by omega, by omega⟩, Nat.add_sub_cancel_left]

theorem there_in {n : Nat} {p : Int} {m : Nat} (h : thereD n p (m : Int) = true) : 0 ≤ p ∧ p.toNat + m ≤ 64 * n := by
  simp [thereD] at h; omega

set_option maxRecDepth 100000 in
set_option maxHeartbeats 16000000 in
theorem diskStays_walk (D : Nat → (Nat → Prop) → Addr → Dsk → World → Prop) (DC : Hid (DiskC D)) (p : Int) (ab : Option Addr) (nb cb : Nat) (bs : List Nat) (w : World)
    (hp : i64d p) (hb : Cells w ab nb (bs.map b8)) (h256 : ∀ b ∈ bs, b < 256) (hcb : nb ≤ cb) (hmb : cb ≤ maxLen) (hnilb : ab = none → cb = 0) :
    Calls Try.prog 6 #[.int .i64 p, .slice ab nb cb] w fun e w' => e = .returned (.bool true) ∧ Below w.heap.size w w' := by
  have HC : Hid (∀ W, Below w.heap.size w W → Cells W ab nb (bs.map b8)) := fun W hW => hb.upB hW
  have H256 := Lib.hid h256
  have HM := Lib.hid hmb
  have HP := Lib.hid hp
  have HNILB := Lib.hid hnilb
  have HBL : Hid (bs.length = nb) := by have := hb.1; rw [List.length_map] at this; exact this
  have hst : ((strB bs).toList == (strB bs).toList) = true := strB_same _
  clear hp hb h256 hmb hnilb
  go_enter Try.func6, Try.ntmps6
  go_wp2_with fail
  refine (up07_any D DC _).mono ?_
  rintro e w1 ⟨rfl, hb1⟩
  have HB1 := Lib.hid hb1
  clear hb1
  by_cases hbig : 500 < nb
  · have t1 : (500 : Int) < (nb : Int) := by omega
    go_wp2_with fail
    go_ret
    exact ⟨rfl, HB1.out⟩
  have hnb : nb ≤ 500 := by omega
  have t1 : (nb : Int) ≤ 500 := by omega
  clear hbig
  go_wp2_with fail
  refine (DC.out.new 8 _ (by unfold i64d; omega)).mono ?_
  rintro e w2 ⟨hb2, ⟨-, -, d, F, rfl, hD, hF⟩ | ⟨h, -⟩⟩
  rotate_left
  · omega
  have HB2 := Lib.hid (HB1.out.trans (hb2.mono HB1.out.size))
  have HD2 : Hid (D 8 F d (Dsk.zero 8) w2) := hD
  have HF : Hid (∀ k, F k → w.heap.size ≤ k ∧ k < w2.heap.size) := fun k hk => ⟨Nat.le_trans HB1.out.size (hF k hk), DC.out.lt hD k hk⟩
  have HO2 : Hid ((w2.alloc (Obj.cells #[] 5)).ownsRow w2.heap.size 5 1 (.slice (some ⟨w2.heap.size, 0, none⟩) 0 0) 0 (([] : List Nat).map b8)) := World.ownsRow_lit (base := w2.heap.size) (e := 5) (size := 1) w2 #[] 0 (Nat.le_refl _) (by decide) rfl
  have HT2 : Hid (Below w2.heap.size w2 (w2.alloc (Obj.cells #[] 5))) := (Below.refl _ _).alloc (Nat.le_refl _) _
  have HC2 := Lib.hid (HC.out _ (HB2.out.trans (HT2.out.mono HB2.out.size)))
  have M2 : Hid (0 + nb ≤ maxLen) := by show 0 + nb ≤ maxLen; simp only [maxLen]; omega
  have HNB : Hid (0 + nb = nb) := Nat.zero_add nb
  clear hb2 hD hF
  go_wp2_with (at_builtin; refine wpList_append_cells rfl (.tmp 33) (.tmp 34) 29 rfl w2.heap.size Tu8 _ 0 _ rfl HO2.out ab nb cb _ rfl HNILB.out HC2.out (b8_one _) M2.out (by omega) (by simp) ?_; intro v3 w3 o3 q3 x3 l3; rw [b8_append, List.nil_append, HNB.out] at o3; have HT3 := Lib.hid (HT2.out.grown q3 (by simp) (fun z hz => (HO2.out.lt z hz).1)); obtain ⟨a3, c3, rfl, hcl3, -, hc3, hB3⟩ := own_bytes o3; have HO3 := Lib.hid o3; have HC3 := Lib.hid hcl3; have HG3 := Lib.hid hB3; clear o3 q3 x3 l3 hcl3 hB3)
  have HFAR : Hid (∀ x, a3 = some x → ¬ F x.block) := fun x hx hf => by have h1 := HG3.out x hx; have h2 := (HF.out _ hf).2; omega
  refine (DC.out.write p a3 nb c3 bs (DC.out.up HD2.out HT3.out) HP.out HC3.out H256.out (fun x hx => Or.inr (HFAR.out x hx)) hc3 (own_cap HO3.out).2 (by omega)).mono ?_
  rintro e w4 ⟨ho4, F4, hF4, hcase⟩
  have HB4 : Hid (Below w.heap.size w w4) := (HB2.out.trans (HT3.out.mono HB2.out.size)).trans (ho4.below (Nat.le_trans HB2.out.size HT3.out.size) (fun k hk => (HF.out k hk).1))
  have HC4 := Lib.hid (HC3.out.only ho4 HFAR.out)
  have HM4 : Hid (Mine w2.heap.size w3.heap.size a3 nb w4) := (Mine.of_own HO3.out).only ho4 fun k hk _ hf => by have := (HF.out k hf).2; omega
  have HF4 : Hid (∀ k, F4 k → w.heap.size ≤ k ∧ (k < w2.heap.size ∨ w3.heap.size ≤ k)) := fun k hk => by
    rcases hF4 k hk with h | h
    · exact ⟨(HF.out k h).1, Or.inl (HF.out k h).2⟩
    · exact ⟨Nat.le_trans (Nat.le_trans HB2.out.size HT3.out.size) h, Or.inr h⟩
  have hz23 : w.heap.size ≤ w2.heap.size := HB2.out.size
  have rs1 := run_str_row (c := c3) HC4.out
  have rs2 := run_str_row (c := cb) (HC.out _ HB4.out)
  clear ho4 hF4 HT3 HO2 HC2 HD2 HB2 HT2 HO3 HC3
  obtain ⟨er, s4, HD4, HER⟩ : ∃ er s4, Hid (D 8 F4 d s4 w4) ∧ Hid (e = .returned er ∧ ((thereD 8 p nb = true ∧ er = .nilIface ∧ s4 = (Dsk.zero 8).write p.toNat bs) ∨ (thereD 8 p nb = false ∧ er = errD 1))) := by
    rcases hcase with ⟨h1, rfl, h3⟩ | ⟨h1, rfl, h3⟩
    · exact ⟨_, _, h3, rfl, Or.inl ⟨h1, rfl, rfl⟩⟩
    · exact ⟨_, _, h3, rfl, Or.inr ⟨h1, rfl⟩⟩
  obtain rfl := HER.out.1
  clear hcase
  go_wp2_with fail
  clear rs1 rs2
  go_loopw [11] (fun i wr => ∃ (j : Nat), j ≤ nb ∧ i = .int .i64 (j : Int) ∧ Hid (Mine w2.heap.size w3.heap.size a3 nb wr) ∧ Hid (Only (fun k => w2.heap.size ≤ k ∧ k < w3.heap.size) w4 wr)) (fun i _ => nb - (RowKit.intOf i).toNat)
  case atStart => exact ⟨0, by omega, rfl, HM4, Only.refl _ _⟩
  case round =>
    obtain ⟨j, hj, rfl, hmi, hO⟩ := hrel
    by_cases hlt : j < nb
    · obtain ⟨g, off, x, rfl, hg1, hg2, hcc, hff⟩ := hmi.out.get hlt
      have t6 : (j : Int) < (nb : Int) := by omega
      have t7 : (0 : Int) ≤ (j : Int) := by omega
      go_wp2_with fail
      go_roundw
      case rel => exact ⟨j + 1, by omega, by go_num, hmi.out.set hlt _, hO.out.setCell ⟨hg1, hg2⟩ _⟩
      case measure => simp [RowKit.intOf]; omega
    · obtain rfl : j = nb := by omega
      have HD5 : Hid (D 8 F4 d s4 wr) := DC.out.keep HD4.out hO.out fun k hk hf => by have := (HF4.out k hf).2; omega
      have HB5 : Hid (Below w.heap.size w wr) := HB4.out.trans (hO.out.below HB4.out.size (fun k hk => by have := hz23; omega))
      clear hlt hmi hO HM4 HD4 HB4
      obtain ⟨W5, hW5⟩ : ∃ W5, W5 = wr := ⟨_, rfl⟩
      subst hW5
      rcases HER.out.2 with ⟨h1, rfl, rfl⟩ | ⟨h1, rfl⟩
      rotate_left
      · clear HER
        go_wp2_with fail
        go_ret
        exact ⟨by simp, HB5.out⟩
      have HTH := Lib.hid h1
      have hin := there_in h1
      have hrd : (((Dsk.zero 8).write p.toNat bs).nw.drop p.toNat).take (j : Int).toNat = bs := by
        have := write_read (s := Dsk.zero 8) (by simp [Dsk.zero]) p.toNat bs (by simp [Dsk.zero]; have := HBL.out; omega)
        rw [HBL.out] at this
        rw [Int.toNat_natCast]; exact this
      have HRD := Lib.hid hrd
      clear h1 hin hrd HER
      go_wp2_with fail
      refine (DC.out.read p (j : Int) HD5.out HP.out (by unfold i64d; omega)).mono ?_
      rintro e w6 ⟨hb6, ⟨-, v, rfl, ho⟩ | ⟨h, -⟩⟩
      rotate_left
      · rw [HTH.out] at h; cases h
      rw [HRD.out, Int.toNat_natCast] at ho
      obtain ⟨pa, pc, rfl, hcl, -, -, -⟩ := own_bytes ho
      have rs1 : (convert 29 9 (.slice pa j pc)).run Try.prog w6 = .ok (.string (strB bs)) w6 := run_str_row (c := pc) hcl
      have HM6 := Lib.hid (Mine.of_own ho)
      have HB6 := Lib.hid hb6
      have HF5 : Hid (∀ k, F4 k → k < W5.heap.size) := fun k hk => DC.out.lt HD5.out k hk
      have hzw : w.heap.size ≤ W5.heap.size := HB5.out.size
      clear hb6 ho hcl
      go_wp2_with fail
      clear rs1
      go_loopw [15] (fun i wr => ∃ (l : Nat), l ≤ j ∧ i = .int .i64 (l : Int) ∧ Hid (Mine W5.heap.size w6.heap.size pa j wr) ∧ Hid (Below W5.heap.size W5 wr)) (fun i _ => j - (RowKit.intOf i).toNat)
      case atStart => exact ⟨0, by omega, rfl, HM6, HB6⟩
      case round =>
        obtain ⟨l, hl, rfl, hmi, hO⟩ := hrel
        by_cases hlt : l < j
        · obtain ⟨g, off, x, rfl, hg1, hg2, hcc, hff⟩ := hmi.out.get hlt
          have t6 : (l : Int) < (j : Int) := by omega
          have t7 : (0 : Int) ≤ (l : Int) := by omega
          go_wp2_with fail
          go_roundw
          case rel => exact ⟨l + 1, by omega, by go_num, hmi.out.set hlt _, hO.out.setCell hg1 _⟩
          case measure => simp [RowKit.intOf]; omega
        · obtain rfl : l = j := by omega
          have HD7 := Lib.hid (DC.out.up HD5.out hO.out)
          have HB7 := Lib.hid (HB5.out.trans (hO.out.mono hzw))
          clear hlt hmi hO HM6 HB6 HD5 HB5
          obtain ⟨W7, hW7⟩ : ∃ W7, W7 = wr := ⟨_, rfl⟩
          subst hW7
          go_wp2_with fail
          refine (DC.out.read p (l : Int) HD7.out HP.out (by unfold i64d; omega)).mono ?_
          rintro e w8 ⟨hb8, ⟨-, v, rfl, ho⟩ | ⟨h, -⟩⟩
          rotate_left
          · rw [HTH.out] at h; cases h
          rw [HRD.out, Int.toNat_natCast] at ho
          obtain ⟨pa2, pc2, rfl, hcl, -, -, -⟩ := own_bytes ho
          have rs1 : (convert 29 9 (.slice pa2 l pc2)).run Try.prog w8 = .ok (.string (strB bs)) w8 := run_str_row (c := pc2) hcl
          have HB8 := Lib.hid (HB7.out.trans (hb8.mono HB7.out.size))
          have rs2 := run_str_row (c := cb) (HC.out _ HB8.out)
          clear hb8 ho hcl
          go_wp2_with fail
          go_ret
          exact ⟨by simp, HB8.out⟩
end Go.Proofs.Ytiooeikoaddfcaa
