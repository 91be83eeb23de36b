/- The contract of the document's answer of layer 7: a crash. -/
import Derived.Test.YtehfbafocbcfnaaDiskRef2
import Derived.Test.YtehfbafocbcfnaaInts
namespace Go.Proofs.Ytehfbafocbcfnaa
open Go Go.RowKit
set_option linter.unusedVariables false

set_option maxHeartbeats 16000000 in
theorem refCrash_any (n : Nat) (G : Lies) (s : Dsk) (a : Option Addr) (m c : Nat) (picks : List Int) (w : World) (h : MAt n G s w) (hb : Elems w a m picks) (hfar : ∀ x, a = some x → m = 0 ∨ ¬ G.all x.block) (hc : m ≤ c) (hm : m ≤ 1000000) :
    Calls Try.prog 33 #[.pointer (some ⟨G.g0, 0, none⟩), .slice a m c] w fun e w' => e = .returned (.tuple #[]) ∧ MAt n G (s.crash picks) w' ∧ Only G.all w w' := by
  have hn := h.ok.2.2.2
  obtain ⟨l1, l2, l3, -⟩ := h.ok
  have L1 := Lib.hid l1
  have L2 := Lib.hid l2
  have L3 := Lib.hid l3
  have H := Lib.hid h
  have HPL := Lib.hid hb.1
  have HB : Hid (∀ W, Only G.all w W → ∀ j, j < m → ∃ b off, a = some ⟨b, off, none⟩ ∧ W.cell? ⟨b, off + j, none⟩ = some (.int .i64 (picks.getD j 0)) ∧ -9223372036854775808 ≤ picks.getD j 0 ∧ picks.getD j 0 ≤ 9223372036854775807) := fun W hW j hj => by
    have h64 := hb.2.1 (picks.getD j 0) (by have := hb.1; simp [List.getD, show j < picks.length by omega])
    rcases hb.2.2 with h0 | ⟨b, off, e, hcc⟩
    · omega
    · refine ⟨b, off, e, ?_, h64⟩
      have hcj := hcc j hj
      have hF : ¬ G.all b := (hfar _ e).resolve_left (by omega)
      rw [World.cell?_of_block (w := w) (hW.block b (cell_lt hcj) hF), hcj]
  clear l1 l2 l3 h hb hfar
  go_enter Try.func33, Try.ntmps33
  go_wp2_with fail
  go_loopw [4, 5] (fun v i wr => ∃ (b : Nat), b ≤ n ∧ v = .int .i64 (((crsN s.st s.nw s.di picks b).2 : Nat) : Int) ∧ i = .int .i64 (b : Int) ∧ Hid (MAt n G ⟨(crsN s.st s.nw s.di picks b).1, s.nw, s.di⟩ wr) ∧ Hid (Only G.all w wr)) (fun _ i _ => n - (RowKit.intOf i).toNat)
  case atStart => exact ⟨0, by omega, rfl, rfl, H, Only.refl _ _⟩
  case round =>
    obtain ⟨b, hbn, rfl, rfl, hA, hO⟩ := hrel
    obtain ⟨c0, c1, c2⟩ := hA.out.cells
    have hkb := crsN_le s.st s.nw s.di picks b
    have hcl := crsN_len s.st s.nw s.di picks b
    obtain ⟨S, hS⟩ : ∃ S, (crsN s.st s.nw s.di picks b).1 = S := ⟨_, rfl⟩
    obtain ⟨k, hk⟩ : ∃ k, (crsN s.st s.nw s.di picks b).2 = k := ⟨_, rfl⟩
    rw [hk] at hkb ⊢
    rw [hS] at hA hcl
    have HS := Lib.hid hS
    have HK := Lib.hid hk
    have HCL := Lib.hid hcl
    clear hS hk hcl
    by_cases hlt : b < n
    · have hbit := hA.out.r3.bit (j := b) (by have := hA.out.ok.1; simp only at this ⊢; omega)
      simp only at hbit
      have t6 : (b : Int) < (n : Int) := by omega
      have t7 : (0 : Int) ≤ (b : Int) := by omega
      by_cases hd : s.di.getD b false = true
      · rw [hd] at hbit
        have HD := Lib.hid hd
        clear hd
        obtain ⟨pk, hpk⟩ : ∃ pk, picks.getD k 0 = pk := ⟨_, rfl⟩
        have HPK := Lib.hid hpk
        clear hpk
        go_wp2_with fail
        obtain ⟨W8, rfl⟩ : ∃ W8, W8 = wr := ⟨_, rfl⟩
        clear hbit c0 c1 c2
        go_loopw [6] (fun i wr => ∃ (j : Nat), j ≤ 64 ∧ i = .int .i64 (j : Int) ∧ Hid (MAt n G ⟨pkN S s.nw (64 * b) pk j, s.nw, s.di⟩ wr) ∧ Hid (Only G.all w wr)) (fun i _ => 64 - (RowKit.intOf i).toNat)
        case atStart => exact ⟨0, by omega, rfl, hA, hO⟩
        case round =>
          obtain ⟨j, hj, rfl, hA, hO⟩ := hrel
          obtain ⟨c0, c1, c2⟩ := hA.out.cells
          by_cases hj64 : j < 64
          · have t8 : (j : Int) < 64 := by omega
            have t9 : (0 : Int) ≤ (j : Int) := by omega
            by_cases hin : (k < m) ∧ (j : Int) < pk
            · obtain ⟨hkm, hjp⟩ := hin
              obtain ⟨pb, po, rfl, hpc, -⟩ := HB.out _ hO.out k hkm
              rw [HPK.out] at hpc
              have u1 : (k : Int) < (m : Int) := by omega
              have u2 : (0 : Int) ≤ (k : Int) := by omega
              have hb1 := hA.out.r2.byte (j := 64 * b + j) (by have := L3.out; simp only; omega)
              have hb2 := hA.out.r1.byte (j := 64 * b + j) (by have := hA.out.ok.2.1; simp only at this ⊢; omega)
              have hf2 := hA.out.r1.frozen (64 * b + j)
              obtain ⟨x, hx⟩ : ∃ x, s.nw.getD (64 * b + j) 0 = x := ⟨_, rfl⟩
              obtain ⟨y, hy⟩ : ∃ y, (pkN S s.nw (64 * b) pk j).getD (64 * b + j) 0 = y := ⟨_, rfl⟩
              simp only at hb1 hb2
              rw [hx] at hb1
              rw [hy] at hb2
              have HX := Lib.hid hx
              clear hx hy
              have v1 : IntKind.i64.wrap (64 * (b : Int)) = 64 * (b : Int) := IntWalk.i64_in _ (by omega)
              have v2 : IntKind.i64.wrap (64 * (b : Int) + (j : Int)) = ((64 * b + j : Nat) : Int) := by rw [IntWalk.i64_in _ (by omega)]; omega
              have v3 : ((64 * b + j : Nat) : Int) < 64 * (n : Int) := by omega
              have v4 : (0 : Int) ≤ ((64 * b + j : Nat) : Int) := by omega
              go_wp2_with fail
              go_region
              go_wp2_with fail
              refine ⟨⟨j + 1, by omega, by go_num, ?_, (hO.out.setCell (Or.inr (Or.inl rfl)) _).drew⟩, by simp [RowKit.intOf]; omega⟩
              have h3 := (hA.out.st (64 * b + j) x).drewN 1
              rw [← HX.out] at h3 ⊢
              simp only [pkN, if_pos hjp]
              exact h3
            · have hpj : pkN S s.nw (64 * b) pk (j + 1) = pkN S s.nw (64 * b) pk j := by
                simp only [pkN]
                rw [if_neg]
                intro hjp
                refine hin ⟨?_, hjp⟩
                refine Nat.lt_of_not_le fun hmk => ?_
                have h0 : picks.getD k 0 = 0 := by simp [List.getD, HPL.out, hmk]
                rw [HPK.out] at h0
                omega
              rw [← hpj] at hA
              have HIN := Lib.hid hin
              clear hpj hin
              by_cases hkm : k < m
              · have hjp : ¬ (j : Int) < pk := fun h => HIN.out ⟨hkm, h⟩
                obtain ⟨pb, po, rfl, hpc, -⟩ := HB.out _ hO.out k hkm
                rw [HPK.out] at hpc
                have u1 : (k : Int) < (m : Int) := by omega
                have u2 : (0 : Int) ≤ (k : Int) := by omega
                go_wp2_with fail
                go_roundw
                case rel => exact ⟨j + 1, by omega, by go_num, hA, hO⟩
                case measure => simp [RowKit.intOf]; omega
              · have u1 : ¬ (k : Int) < (m : Int) := by omega
                go_wp2_with fail
                go_roundw
                case rel => exact ⟨j + 1, by omega, by go_num, hA, hO⟩
                case measure => simp [RowKit.intOf]; omega
          · obtain rfl : j = 64 := by omega
            have u3 : (0 : Int) ≤ (k : Int) := by omega
            go_wp2_with fail
            refine ⟨⟨b + 1, by omega, by simp only [crsN, if_pos HD.out]; rw [HK.out]; go_num, by go_num, ?_, hO⟩, by simp [RowKit.intOf]; omega⟩
            have hcr : (crsN s.st s.nw s.di picks (b + 1)).1 = pkN S s.nw (64 * b) pk 64 := by
              simp only [crsN, if_pos HD.out]
              rw [HK.out, HPK.out, HS.out]
            rw [hcr]
            exact hA
      · have HD := Lib.hid (show s.di.getD b false = false by simpa using hd)
        rw [HD.out] at hbit
        clear hd
        go_wp2_with fail
        go_roundw
        case rel => exact ⟨b + 1, by omega, by simp only [crsN, HD.out]; simp [HK.out], by go_num, by simp only [crsN, HD.out]; simpa [HS.out] using hA, hO⟩
        case measure => simp [RowKit.intOf]; omega
    · obtain rfl : b = n := by omega
      clear hlt
      go_wp2_with fail
      refine (refSettle_any b G _ _ hA.out).mono ?_
      rintro e w2 ⟨rfl, hA2, hO2⟩
      have HA2 := Lib.hid hA2
      have HO2 := Lib.hid (hO.out.trans hO2)
      clear hA2 hO2
      go_wp2_with fail
      go_end0
      exact ⟨rfl, by rw [Dsk.crash, L1.out, HS.out]; exact HA2.out, HO2.out⟩
end Go.Proofs.Ytehfbafocbcfnaa
