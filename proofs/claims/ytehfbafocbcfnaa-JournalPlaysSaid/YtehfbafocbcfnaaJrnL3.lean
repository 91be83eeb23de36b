/- The walk of JournalOpens: the records of any bytes that stand on a disk, and what stands behind them then. -/
import Derived.Test.YtehfbafocbcfnaaJrnK
namespace Go.Proofs.Ytehfbafocbcfnaa
open Go Go.RowKit
set_option linter.unusedVariables false

section
variable {D : Nat → (Nat → Prop) → Addr → Dsk → World → Prop} {J : Nat → (Nat → Prop) → Addr → Addr → Jr → World → Prop}

theorem openS_byt_recs {s : Dsk} (h : s.byt) : Byts (recsOf s.nw) := by
  have key : ∀ (m p : Nat), Byts (scanN s.nw m p).1 := fun m => by
    induction m with
    | zero => intro p; exact byts_nil
    | succ m ih =>
      intro p
      unfold scanN
      split
      · intro r hr x hx
        rcases List.mem_cons.1 hr with rfl | hr
        · exact h.2 x (List.mem_of_mem_drop (List.mem_of_mem_take hx))
        · exact ih _ r hr x hx
      · exact byts_nil
  exact key _ _
theorem scanN_count (bs : List Nat) (m p : Nat) : (scanN bs m p).1.length ≤ m := by
  induction m generalizing p with
  | zero => simp [scanN]
  | succ m ih =>
    unfold scanN
    split
    · simp only [List.length_cons]; have := ih (p + 8 + foundN bs p); omega
    · simp

set_option maxRecDepth 100000 in
set_option maxHeartbeats 16000000 in
theorem journalOpens_walk (DC : Hid (DiskC D)) (JC : Hid (JrnC D J)) (a : Option Addr) (m c : Nat) (bs : List Nat) (w : World) (hb : Cells w a m (bs.map b8)) (h256 : ∀ x ∈ bs, x < 256) (hc : m ≤ c) (hm : c ≤ maxLen) :
    Calls Try.prog 4 #[.slice a m c] w fun e w' => e = .returned (.bool true) ∧ Below w.heap.size w w' := by
  have HB := Lib.hid hb
  have H256 := Lib.hid h256
  have HM := Lib.hid hm
  have HL : Hid (bs.length = m) := by have := hb.1; rw [List.length_map] at this; exact this
  clear hb h256 hm
  go_enter Try.func4, Try.ntmps4
  go_wp2_with fail
  refine (up08_any DC JC _).mono ?_
  rintro e w1 ⟨rfl, hb1⟩
  have HB1 := Lib.hid hb1
  clear hb1
  by_cases hbig : 512 < m
  · have t1 : (512 : Int) < (m : Int) := by omega
    go_wp2_with fail
    go_ret
    exact ⟨rfl, HB1.out⟩
  have t1 : (m : Int) ≤ 512 := by omega
  go_wp2_with fail
  refine (DC.out.new 8 _ (by unfold i64d; omega)).mono ?_
  rintro e w2 ⟨hb2, ⟨-, -, d, F1, rfl, hD1, hF1⟩ | ⟨h, -⟩⟩
  rotate_left
  · omega
  have H1 : Hid (DH D 8 d (Dsk.zero 8) (fun _ => False) w w2) := ⟨⟨F1, hD1, fun k hk => Nat.le_trans HB1.out.size (hF1 k hk), fun _ _ h => h⟩, fun _ h => h.elim, HB1.out.trans (hb2.mono HB1.out.size)⟩
  clear hD1 hF1 hb2
  go_wp2_with fail
  refine (H1.out.write DC.out (fun _ h => h.elim) 0 a m c bs (by unfold i64d; omega) (HB.out.upB H1.out.below) (Mine2.old HB.out) H256.out hc HM.out (by omega)).mono ?_
  rintro e w3 ⟨k3, s3, rfl, hd3, -, ⟨-, rfl, rfl⟩ | ⟨g, -⟩⟩
  rotate_left
  · exact absurd g (by simp [thereD]; omega)
  have H2 := Lib.hid hd3
  rw [errv_0]
  clear hd3 H1
  go_wp2_with fail
  refine (H2.out.sync DC.out (fun _ h => h.elim)).mono ?_
  rintro e w4 ⟨rfl, hd4, -⟩
  obtain ⟨s, hs⟩ : ∃ s, ((Dsk.zero 8).write (0 : Int).toNat bs).sync = s := ⟨_, rfl⟩
  have HS := Lib.hid hs
  have HSB : Hid s.byt := by rw [← hs]; exact Dsk.byt_sync (Dsk.byt_write (Dsk.byt_zero 8) H256.out)
  have HSL : Hid (s.nw.length = 512) := by
    rw [← hs]; show (putN _ _ _ _).length = _
    rw [putN_len]; simp [Dsk.zero]
  rw [hs] at hd4
  have H3 := Lib.hid hd4
  clear hd4 H2 hs
  go_wp2_with fail
  refine (H3.out.open' JC.out (fun _ h => h.elim) HSB.out).mono ?_
  rintro e w5 ⟨j, rfl, hj5, -⟩
  have H4 := Lib.hid hj5
  clear hj5 H3
  go_wp2_with fail
  refine (refNew7_any 8 (by omega) _).mono ?_
  rintro e w6 ⟨G, rfl, hM6, hG6, hb6⟩
  have H5 : Hid (JH D J 8 d j (openS s) (openR s) G.all w w6) := H4.out.own DC.out JC.out (Only.of_below hb6) fun k hk => Or.inr (hG6 k hk)
  have HM6 := Lib.hid hM6
  clear hM6 hG6 hb6 H4
  go_wp2_with fail
  refine (refWrite7_any 8 G _ 0 a m c bs _ HM6.out (HB.out.upB H5.out.below) (fun x hx => by
    rcases Mine2.old (K := fun _ => False) HB.out x hx with h | h | h
    · exact Or.inl h
    · exact h.elim
    · exact Or.inr fun hg => by have := H5.out.kp _ hg; omega) hc (by omega)).mono ?_
  rintro e w7 ⟨rfl, hM7, ho7⟩
  have H6 := Lib.hid (H5.out.own DC.out JC.out ho7 fun k hk => Or.inl hk)
  have HM7 := Lib.hid hM7
  clear hM7 ho7 H5 HM6
  go_wp2_with fail
  refine (refSync_any 8 G _ _ HM7.out).mono ?_
  rintro e w8 ⟨rfl, hM8, ho8⟩
  have H7 := Lib.hid (H6.out.own DC.out JC.out ho8 fun k hk => Or.inl hk)
  rw [show ((Dsk.zero 8).write 0 bs).sync = s from HS.out] at hM8
  have HM8 := Lib.hid hM8
  clear hM8 ho8 H6 HM7
  go_wp2_with fail
  refine (refOpen8_any HM8.out HSB.out.2).mono ?_
  rintro e w9 hop
  obtain ⟨K, Z, v, vs, rfl, hM9, hK9, ho9, hZ9⟩ := hop
  have H8 : Hid (JH D J 8 d j (openS s) (openR s) G.all w w9) := H7.out.own DC.out JC.out ho9 fun k hk => Or.inl hk
  have HM9 := Lib.hid hM9
  have HK9 := Lib.hid hK9
  clear hM9 hK9 ho9 hZ9 H7 HM8
  go_wp2_with fail
  refine (H8.out.read DC.out JC.out 0 512 (by unfold i64d; omega) (by unfold i64d; omega) (by decide)).mono ?_
  rintro e w10 ⟨pa, pc, rfl, hcl, hj10, hb10⟩
  have hnl : (openS s).nw.length = 512 := HM9.out.ok.2.2.1
  have hall : ((openS s).nw.drop (0 : Int).toNat).take (512 : Int).toNat = (openS s).nw := by
    rw [show (0 : Int).toNat = 0 from rfl, show (512 : Int).toNat = 512 from rfl, List.drop_zero, List.take_of_length_le (by omega)]
  rw [hall, show (512 : Int).toNat = 512 from rfl] at hcl
  have H9 := Lib.hid hj10
  have HM10 := Lib.hid (HM9.out.up hb10)
  have HK10 := Lib.hid (HK9.out.up hb10)
  obtain ⟨va, vc, rfl, hvc1, hvn, hvr⟩ := HK10.out.owns.rows
  have HVR := Lib.hid hvr
  have HT1 : Hid (∀ W', Below w10.heap.size w10 W' → (convert 27 9 (.slice pa 512 pc)).run Try.prog W' = .ok (.string (strB (openS s).nw)) W') := fun W' h => run_str_row (hcl.upB h)
  have HT2 : Hid (∀ W', Below w10.heap.size w10 W' → (convert 27 9 (.slice (some ⟨G.g2, 0, none⟩) 512 512)).run Try.prog W' = .ok (.string (strB (openS s).nw)) W') := fun W' h => by
    refine run_str_row (Cells.upB ⟨by simpa using hnl, Or.inr ⟨_, 0, rfl, fun i hi => ?_⟩⟩ h)
    rw [Nat.zero_add, HM10.out.r2.byte (by omega)]
    simp [List.getD, b8, show i < (openS s).nw.length by omega]
  have HC1 : Hid (∀ W', Below w10.heap.size w10 W' → W'.cell? ⟨G.g0, 1, none⟩ = some (.slice (some ⟨G.g2, 0, none⟩) 512 512)) := fun W' h => (HM10.out.up h).cells.2.1
  have HC2 : Hid (∀ W', Below w10.heap.size w10 W' → W'.cell? ⟨K, 1, none⟩ = some (.slice va (openR s).recs.length vc)) := fun W' h => (HK10.out.up h).cells.2.1
  have hst : ((strB (openS s).nw).toList == (strB (openS s).nw).toList) = true := strB_same _
  have hT : Hid (Below w10.heap.size w10 w10.drew) := Below.drew (Below.refl _ _)
  have hrec : (openR s).recs = recsOf s.nw := rfl
  have HRB : Hid (Byts (recsOf s.nw)) := openS_byt_recs HSB.out
  have HRL : Hid ((recsOf s.nw).length ≤ 512) := by have := scanN_count s.nw s.nw.length 0; rw [HSL.out] at this; unfold recsOf; rw [HSL.out]; exact this
  obtain ⟨R, hR⟩ : ∃ R, recsOf s.nw = R := ⟨_, rfl⟩
  rw [hrec, hR] at HVR HC2
  rw [hR] at HRB HRL
  have HR : Hid ((openR s).recs = R) := hR
  clear hcl hj10 hb10 hall hnl hvr hrec hR
  go_wp2_with fail
  go_region_held3 (fun w' => (convert 27 9 (.slice pa 512 pc)).run Try.prog w' = .ok (.string (strB (openS s).nw)) w' ∧ (convert 27 9 (.slice (some ⟨G.g2, 0, none⟩) 512 512)).run Try.prog w' = .ok (.string (strB (openS s).nw)) w' ∧
      w'.cell? ⟨G.g0, 1, none⟩ = some (.slice (some ⟨G.g2, 0, none⟩) 512 512) ∧ w'.cell? ⟨K, 1, none⟩ = some (.slice va R.length vc))
    (exact ⟨HT1.out _ hT.out, HT2.out _ hT.out, HC1.out _ hT.out, HC2.out _ hT.out⟩)
    (first
      | (go_at_call 24; with_reducible refine (JH.records DC.out JC.out (H9.out.up DC.out JC.out hT.out)).mono ?_; rintro e w11 ⟨vr, rfl, hown, hj11, hb11⟩; rw [HR.out] at hown; have hT := Lib.hid (hT.out.trans (hb11.mono hT.out.size)); obtain ⟨ra, rc, rfl, hrc, -, hrr⟩ := hown.rows; have HRR := Lib.hid hrr; have HJ := Lib.hid hj11; clear hown hrr hj11 hb11)
      | (go_at_call 23; with_reducible refine (refSame8_any ra va _ rc _ vc R R _ HRR.out (HVR.out.up hT.out) HRB.out HRB.out (by have := HRL.out; omega) (by have := HRL.out; unfold maxLen; omega)).mono ?_; rintro e w12 ⟨rfl, q, rfl⟩; have hT := Lib.hid (below_drewN hT.out q); have HJ := Lib.hid (HJ.out.up DC.out JC.out (below_drewN (Below.refl _ _) q))))
  go_wp2_with fail
  go_ret
  exact ⟨by first | rfl | simp, HJ.out.below⟩
end
end Go.Proofs.Ytehfbafocbcfnaa
