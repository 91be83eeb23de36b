/- Do a disk, its journal and their models stand alike? -/
import Derived.Test.YtehfbafocbcfnaaJrnP
namespace Go.Proofs.Ytehfbafocbcfnaa
open Go Go.RowKit
set_option linter.unusedVariables false

section
variable {D : Nat → (Nat → Prop) → Addr → Dsk → World → Prop} {J : Nat → (Nat → Prop) → Addr → Addr → Jr → World → Prop} {n : Nat} {d j : Addr} {s t : Dsk} {r q : Jr} {G : Lies} {Kb : Nat} {Z : Nat → Prop} {v : Value} {vs : List Value} {g : Nat} {K : Nat → Prop} {w W W' : World}

theorem JH.size (DC : DiskC D) (JC : JrnC D J) (h : JH D J n d j s r K w W) :
    Calls Try.prog 34 #[.pointer (some d)] W fun e w' => e = .returned (.int .i64 (64 * (n : Int))) ∧ JH D J n d j s r K w w' ∧ Below W.heap.size W w' := by
  obtain ⟨F, E, h1, h2, -⟩ := h.at'
  refine (DC.size h1).mono ?_
  rintro e w' ⟨hb, rfl⟩
  exact ⟨rfl, h.up DC JC hb, hb⟩
theorem JH.dirty (DC : DiskC D) (JC : JrnC D J) (h : JH D J n d j s r K w W) :
    Calls Try.prog 36 #[.pointer (some d)] W fun e w' => e = .returned (.int .i64 (s.many : Int)) ∧ JH D J n d j s r K w w' ∧ Below W.heap.size W w' := by
  obtain ⟨F, E, h1, h2, -⟩ := h.at'
  refine (DC.dirty h1).mono ?_
  rintro e w' ⟨hb, rfl⟩
  exact ⟨rfl, h.up DC JC hb, hb⟩

set_option maxRecDepth 100000 in
set_option maxHeartbeats 16000000 in
theorem alike8_any (DC : Hid (DiskC D)) (JC : Hid (JrnC D J)) (h : PJ D J n d j s r s r G Kb Z v vs g K w W) (hn1 : 1 ≤ n) (hby : Byts r.recs) (hf : r.fin ≤ 64 * n) (hrl : r.recs.length ≤ 100000) :
    Calls Try.prog 13 #[.pointer (some ⟨g, 0, none⟩)] W fun e w' => e = .returned (.bool true) ∧ Below W.heap.size W w' := by
  obtain ⟨c0, -, -, -⟩ := pair_cells h.row
  have H := Lib.hid h
  have HBY := Lib.hid hby
  have HF := Lib.hid hf
  have hn := h.md.ok.2.2.2
  have hT : Hid (Below W.heap.size W W.drew) := Below.drew (Below.refl _ _)
  clear h hby hf
  go_enter Try.func13, Try.ntmps13
  go_wp2_with fail
  go_region_held3 (fun w' => w'.cell? ⟨g, 0, none⟩ = some (.pointer (some d)))
    (exact (pair_cells (H.out.up DC.out JC.out hT.out).row).1)
    (first
      | (go_at_call 34; with_reducible refine (JH.size DC.out JC.out (H.out.up DC.out JC.out hT.out).jh).mono ?_; rintro e w1 ⟨rfl, -, hb1⟩; have hT := Lib.hid (hT.out.trans (hb1.mono hT.out.size)); clear hb1)
      | (go_at_call 22; with_reducible refine (JH.read DC.out JC.out (H.out.up DC.out JC.out hT.out).jh 0 (64 * (n : Int)) (by unfold i64d; omega) (by unfold i64d; omega) (by simp [thereD]; omega)).mono ?_; rintro e w2 ⟨pa, pc, rfl, hcl, -, hb2⟩; have HCL := Lib.hid hcl; have HT0 := hT; have hT := Lib.hid (hT.out.trans (hb2.mono hT.out.size)); clear hb2 hcl))
  have H2 := Lib.hid (H.out.up DC.out JC.out hT.out)
  have hnl : s.nw.length = 64 * n := H2.out.md.ok.2.2.1
  have hall : (s.nw.drop (0 : Int).toNat).take (64 * (n : Int)).toNat = s.nw := by
    rw [show (0 : Int).toNat = 0 from rfl, show (64 * (n : Int)).toNat = 64 * n by omega, List.drop_zero, List.take_of_length_le (by omega)]
  have hcl := HCL.out
  rw [hall, show (64 * (n : Int)).toNat = 64 * n by omega] at hcl
  rw [show (64 * (n : Int)).toNat = 64 * n by omega]
  obtain ⟨va, vc, hv, hvc1, hvn, hvr⟩ := H2.out.kt.owns.rows
  subst hv
  have HVR := Lib.hid hvr
  obtain ⟨W2, hW2⟩ : ∃ W2, W2 = w2 := ⟨_, rfl⟩
  subst hW2
  have HT1 : Hid (∀ W', Below W2.heap.size W2 W' → (convert 27 9 (.slice pa (64 * n) pc)).run Try.prog W' = .ok (.string (strB s.nw)) W') := fun W' h => run_str_row (hcl.upB h)
  have HT2 : Hid (∀ W', Below W2.heap.size W2 W' → (convert 27 9 (.slice (some ⟨G.g2, 0, none⟩) (64 * n) (64 * n))).run Try.prog W' = .ok (.string (strB s.nw)) W') := fun W' h => by
    refine run_str_row (Cells.upB ⟨by simpa using hnl, Or.inr ⟨_, 0, rfl, fun i hi => ?_⟩⟩ h)
    rw [Nat.zero_add, H2.out.md.r2.byte (by omega)]
    simp [List.getD, b8, show i < s.nw.length by omega]
  have HU : Hid (∀ W', Below W2.heap.size W2 W' → PJ D J n d j s r s r G Kb Z (.slice va r.recs.length vc) vs g K w W') := fun W' h => H2.out.up DC.out JC.out h
  have hst : ((strB s.nw).toList == (strB s.nw).toList) = true := strB_same _
  have HS : Hid (∀ W', Below W2.heap.size W2 W' → ((convert 27 9 (.slice pa (64 * n) pc)).run Try.prog W' = .ok (.string (strB s.nw)) W' ∧ (convert 27 9 (.slice (some ⟨G.g2, 0, none⟩) (64 * n) (64 * n))).run Try.prog W' = .ok (.string (strB s.nw)) W' ∧
      W'.cell? ⟨g, 0, none⟩ = some (.pointer (some d)) ∧ W'.cell? ⟨g, 1, none⟩ = some (.pointer (some j)) ∧ W'.cell? ⟨g, 2, none⟩ = some (.pointer (some ⟨G.g0, 0, none⟩)) ∧ W'.cell? ⟨g, 3, none⟩ = some (.pointer (some ⟨Kb, 0, none⟩)) ∧
      W'.cell? ⟨G.g0, 1, none⟩ = some (.slice (some ⟨G.g2, 0, none⟩) (64 * n) (64 * n)) ∧ W'.cell? ⟨Kb, 1, none⟩ = some (.slice va r.recs.length vc))) := fun W' h => by
    have h1 := pair_cells (HU.out W' h).row
    exact ⟨HT1.out _ h, HT2.out _ h, h1.1, h1.2.1, h1.2.2.1, h1.2.2.2, (HU.out W' h).md.cells.2.1, (HU.out W' h).kt.cells.2.1⟩
  have HT9 := hT
  have hT : Hid (Below W2.heap.size W2 W2.drew) := Below.drew (Below.refl _ _)
  clear hnl hall hcl hvr
  go_wp2_with fail
  go_region_held3 (fun W' => ((convert 27 9 (.slice pa (64 * n) pc)).run Try.prog W' = .ok (.string (strB s.nw)) W' ∧ (convert 27 9 (.slice (some ⟨G.g2, 0, none⟩) (64 * n) (64 * n))).run Try.prog W' = .ok (.string (strB s.nw)) W' ∧
      W'.cell? ⟨g, 0, none⟩ = some (.pointer (some d)) ∧ W'.cell? ⟨g, 1, none⟩ = some (.pointer (some j)) ∧ W'.cell? ⟨g, 2, none⟩ = some (.pointer (some ⟨G.g0, 0, none⟩)) ∧ W'.cell? ⟨g, 3, none⟩ = some (.pointer (some ⟨Kb, 0, none⟩)) ∧
      W'.cell? ⟨G.g0, 1, none⟩ = some (.slice (some ⟨G.g2, 0, none⟩) (64 * n) (64 * n)) ∧ W'.cell? ⟨Kb, 1, none⟩ = some (.slice va r.recs.length vc)))
    (exact HS.out _ hT.out)
    (first
      | (go_at_call 24; with_reducible refine (JH.records DC.out JC.out (HU.out _ hT.out).jh).mono ?_; rintro e w11 ⟨vr, rfl, hown, -, hb11⟩; have hT := Lib.hid (hT.out.trans (hb11.mono hT.out.size)); obtain ⟨ra, rc, rfl, hrc, -, hrr⟩ := hown.rows; have HRR := Lib.hid hrr; clear hown hrr hb11)
      | (go_at_call 23; with_reducible refine (refSame8_any ra va r.recs.length rc r.recs.length vc r.recs r.recs _ HRR.out (HVR.out.up hT.out) HBY.out HBY.out (by omega) (by unfold maxLen; omega)).mono ?_; rintro e w12 ⟨rfl, q12, rfl⟩; have hT := Lib.hid (below_drewN hT.out q12))
      | (go_at_call 28; with_reducible refine (JH.free DC.out JC.out (HU.out _ hT.out).jh).mono ?_; rintro e w13 ⟨rfl, -, hb13⟩; have hT := Lib.hid (hT.out.trans (hb13.mono hT.out.size)); clear hb13)
      | (go_at_call 35; with_reducible refine (refFree8_any n s (HU.out _ hT.out).md (HU.out _ hT.out).kt HF.out).mono ?_; rintro e w14 ⟨rfl, q14, rfl⟩; have hT := Lib.hid (below_drewN hT.out q14))
      | (go_at_call 36; with_reducible refine (JH.dirty DC.out JC.out (HU.out _ hT.out).jh).mono ?_; rintro e w15 ⟨rfl, -, hb15⟩; have hT := Lib.hid (hT.out.trans (hb15.mono hT.out.size)); clear hb15)
      | (go_at_call 37; with_reducible refine (refMany_any n G s _ (HU.out _ hT.out).md).mono ?_; rintro e w16 ⟨rfl, q16, rfl⟩; have hT := Lib.hid (below_drewN hT.out q16)))
  go_wp2_with fail
  go_ret
  exact ⟨by first | rfl | simp, HT9.out.trans (hT.out.mono HT9.out.size)⟩
end
end Go.Proofs.Ytehfbafocbcfnaa
