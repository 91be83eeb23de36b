/- The walks of SplitFirst and SplitEven. -/
import Derived.Test.YtkmoibikempieaaSplitC
namespace Go.Proofs.Ytkmoibikempieaa
open Go Go.RowKit
set_option linter.unusedVariables false

set_option maxHeartbeats 1000000 in
theorem first_long (SH : Hid SharesC) (T : Int) (a : Option Addr) (len cap : Nat) (w : World) (h : 500 < len) (hm : len ≤ 9223372036854775807) :
    Calls Try.prog 7 #[.int .i64 T, .slice a len cap] w fun e w' => e = .returned (.bool true) ∧ Below w.heap.size w w' := by
  have c : (500 : Int) < (len : Int) := by omega
  go_enter Try.func7, Try.ntmps7
  go_wp2_with fail
  refine (up03_any SH _).mono ?_
  rintro e w1 ⟨rfl, hb⟩
  go_wp2_with fail
  go_ret
  exact ⟨rfl, hb⟩

set_option maxHeartbeats 4000000 in
theorem first_walk (SH : Hid SharesC) (T : Int) (a : Option Addr) (len cap : Nat) (zs : List Int) (w : World) (hT : -9223372036854775808 ≤ T ∧ T ≤ 9223372036854775807) (h : Elems w a len zs) (hl : len ≤ 500) (hlc : len ≤ cap) :
    Calls Try.prog 7 #[.int .i64 T, .slice a len cap] w fun e w' => e = .returned (.bool true) ∧ Below w.heap.size w w' := by
  have c : ¬ (500 : Int) < (len : Int) := by omega
  have HE := Lib.hid h
  clear h
  go_enter Try.func7, Try.ntmps7
  go_wp2_with fail
  refine (up03_any SH _).mono ?_
  rintro e w1 ⟨rfl, hb1⟩
  have HB1 := Lib.hid hb1
  clear hb1
  go_wp2_with fail
  refine (SH.out T a len cap zs _ hT.1 hT.2 (HE.out.up HB1.out) hlc (by omega)).mono ?_
  rintro e w2 ⟨hb2, ⟨hn, rfl⟩ | ⟨hok, b, cap2, rfl, hown⟩⟩
  · have HB2 := Lib.hid (HB1.out.trans (hb2.mono HB1.out.size))
    clear hb2 hn
    go_wp2_with fail
    go_ret
    exact ⟨rfl, HB2.out⟩
  · have HB2 := Lib.hid (HB1.out.trans (hb2.mono HB1.out.size))
    have hz : zs.length = len := HE.out.1
    have CZ : Hid (∀ j, j < len → ∃ x o, a = some ⟨x, o, none⟩ ∧ w2.cell? ⟨x, o + j, none⟩ = some (.int .i64 (wgt zs j))) := fun j hj => by
      rcases ((HE.out.up HB1.out).up hb2).2.2 with h0 | ⟨x, o, he, hc⟩
      · omega
      · exact ⟨x, o, he, hc j hj⟩
    have CS : Hid (∀ j, j < len → w2.cell? ⟨b, j, none⟩ = some (.int .i64 (shareS T (wgt zs) zs.length j)) ∧ 0 ≤ shareS T (wgt zs) zs.length j ∧ shareS T (wgt zs) zs.length j ≤ 10000000000001) := fun j hj => by
      have h1 := row_cell hown (j := j) (by omega)
      rw [sharesL_get T zs j (by omega)] at h1
      exact ⟨h1, share_room hok (by omega)⟩
    have FST : Hid (∀ i k, i < k → k < len → wgt zs i = wgt zs k → shareS T (wgt zs) zs.length k ≤ shareS T (wgt zs) zs.length i ∧ shareS T (wgt zs) zs.length i ≤ shareS T (wgt zs) zs.length k + 1) := fun i k h1 h2 h3 => share_first h1 (by omega) h3
    clear hown hb2 hok
    rw [hz] at CS FST ⊢
    clear hz
    go_wp2_with fail
    go_loopw [8] (fun i wr => ∃ k : Nat, k ≤ len ∧ i = .int .i64 k ∧ ∃ q, wr = World.drewN w2 q) (fun i _ => len - (RowKit.intOf i).toNat)
    case atStart => exact ⟨0, Nat.zero_le _, rfl, 0, rfl⟩
    case round =>
      obtain ⟨i, hi, rfl, q, rfl⟩ := hrel
      by_cases hlt : i < len ∧ i < 40
      · obtain ⟨h1, h2⟩ := hlt
        have i0 : (0 : Int) ≤ (i : Int) := by omega
        have i1 : (i : Int) < (len : Int) := by omega
        have i2 : (i : Int) < 40 := by omega
        obtain ⟨x, o, rfl, z1⟩ := CZ.out i h1
        obtain ⟨s1, s2, s3⟩ := CS.out i h1
        obtain ⟨S, hS⟩ : ∃ s, shareS T (wgt zs) len i = s := ⟨_, rfl⟩
        obtain ⟨Z, hZ⟩ : ∃ s, wgt zs i = s := ⟨_, rfl⟩
        rw [hS] at s1 s2 s3
        rw [hZ] at z1
        have HS := Lib.hid hS
        have HZ := Lib.hid hZ
        clear hS hZ
        obtain ⟨wo, hwo⟩ : ∃ wo : World, wo = World.drewN w2 q := ⟨_, rfl⟩
        go_wp2_with fail
        go_loopw [9] (fun j wr => ∃ k : Nat, i + 1 ≤ k ∧ k ≤ len ∧ j = .int .i64 k ∧ ∃ q, wr = World.drewN w2 q) (fun j _ => len - (RowKit.intOf j).toNat)
        case atStart => exact ⟨i + 1, Nat.le_refl _, by omega, by go_num, q, rfl⟩
        case round =>
          obtain ⟨k, hk1, hk2, rfl, q2, rfl⟩ := hrel
          by_cases hlt2 : k < len
          · have k0 : (0 : Int) ≤ (k : Int) := by omega
            have k1 : (k : Int) < (len : Int) := by omega
            obtain ⟨x', o', he, z2⟩ := CZ.out k hlt2
            simp only [Option.some.injEq, Addr.mk.injEq, and_true] at he
            obtain ⟨rfl, rfl⟩ := he
            obtain ⟨t1, t2, t3⟩ := CS.out k hlt2
            have f1 := FST.out i k (by omega) hlt2
            rw [HS.out, HZ.out] at f1
            generalize shareS T (wgt zs) len k = S2 at *
            generalize wgt zs k = Z2 at *
            by_cases heq : Z = Z2
            · obtain ⟨f2, f3⟩ := f1 heq
              have e1 : (Z == Z2) = true := by simpa using heq
              have e2 : decide (S < S2) = false := by simp; omega
              have e3 : decide (S2 + 1 < S) = false := by simp; omega
              clear f1 heq
              go_wp2_with fail
              go_quiet (fail)
              go_wp2_with fail
              go_roundw
              case rel => exact ⟨k + 1, by omega, by omega, by go_num, _, rfl⟩
              case measure => simp [RowKit.intOf]; omega
            · have e1 : (Z == Z2) = false := by simpa using heq
              clear f1 heq
              go_wp2_with fail
              go_quiet (fail)
              go_wp2_with fail
              go_roundw
              case rel => exact ⟨k + 1, by omega, by omega, by go_num, _, rfl⟩
              case measure => simp [RowKit.intOf]; omega
          · have k1 : ¬ (k : Int) < (len : Int) := by omega
            go_wp2_with fail
            go_roundw
            case rel => exact ⟨i + 1, by omega, by go_num, _, rfl⟩
            case measure => simp [RowKit.intOf]; omega
      · have e1 : ((len : Int) == (len : Int)) = true := by simp
        by_cases h1 : i < len
        · have i1 : (i : Int) < (len : Int) := by omega
          have i2 : ¬ (i : Int) < 40 := by omega
          clear hlt
          go_wp2_with fail
          go_ret
          exact ⟨rfl, below_drewN HB2.out _⟩
        · have i1 : ¬ (i : Int) < (len : Int) := by omega
          clear hlt
          go_wp2_with fail
          go_ret
          exact ⟨rfl, below_drewN HB2.out _⟩

theorem splitFirst_walk (SH : Hid SharesC) (T : Int) (a : Option Addr) (len cap : Nat) (zs : List Int) (w : World) (hT : -9223372036854775808 ≤ T ∧ T ≤ 9223372036854775807) (h : IsRow .i64 w a len cap zs) :
    Calls Try.prog 7 #[.int .i64 T, .slice a len cap] w fun e w' => e = .returned (.bool true) ∧ Below w.heap.size w w' := by
  obtain ⟨h1, h2, h3⟩ := row_elems h
  by_cases hl : 500 < len
  · exact first_long SH T a len cap w hl (by simp [maxLen] at h3; omega)
  · exact first_walk SH T a len cap _ w hT h1 (by omega) h2
end Go.Proofs.Ytkmoibikempieaa
