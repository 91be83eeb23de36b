/- The walk of SplitShares: any total's shares by any weights, or that there are none. -/
import Derived.Test.YtkmoibikempieaaRefShares
namespace Go.Proofs.Ytkmoibikempieaa
open Go Go.RowKit
set_option linter.unusedVariables false

set_option maxHeartbeats 1000000 in
theorem shares_long (SH : Hid SharesC) (T : Int) (a : Option Addr) (len cap : Nat) (w : World) (h : 500 < len) (hm : len ≤ 9223372036854775807) :
    Calls Try.prog 3 #[.int .i64 T, .slice a len cap] w fun e w' => e = .returned (.bool true) ∧ Below w.heap.size w w' := by
  have c : (500 : Int) < (len : Int) := by omega
  go_enter Try.func3, Try.ntmps3
  go_wp2_with fail
  refine (up03_any SH _).mono ?_
  rintro e w1 ⟨rfl, hb⟩
  go_wp2_with fail
  go_ret
  exact ⟨rfl, hb⟩

set_option maxHeartbeats 2000000 in
theorem shares_law (SH : Hid SharesC) (T : Int) (a : Option Addr) (len cap : Nat) (zs : List Int) (w : World) (hT : -9223372036854775808 ≤ T ∧ T ≤ 9223372036854775807) (h : Elems w a len zs) (hl : len ≤ 500) (hlc : len ≤ cap) :
    Calls Try.prog 3 #[.int .i64 T, .slice a len cap] w fun e w' => e = .returned (.bool true) ∧ Below w.heap.size w w' := by
  have c : ¬ (500 : Int) < (len : Int) := by omega
  have r1 := fun w => run_eql_code w 1 1
  have HE := Lib.hid h
  clear h
  go_enter Try.func3, Try.ntmps3
  go_wp2_with fail
  refine (up03_any SH _).mono ?_
  rintro e w1 ⟨rfl, hb1⟩
  have HB1 := Lib.hid hb1
  clear hb1
  go_wp2_with fail
  refine (SH.out T a len cap zs _ hT.1 hT.2 (HE.out.up HB1.out) hlc (by omega)).mono ?_
  rintro e w2 ⟨hb2, ⟨hn, rfl⟩ | ⟨hok, b, cap2, rfl, hown⟩⟩
  · have HB2 := Lib.hid (HB1.out.trans (hb2.mono HB1.out.size))
    have HE2 := Lib.hid ((HE.out.up HB1.out).up hb2)
    have HN := Lib.hid hn
    clear hb2 hn
    go_wp2_with fail
    refine (refMay3_any T a len cap zs false _ HE2.out (by omega) ⟨(fun h => by cases h), fun h => absurd h HN.out⟩).mono ?_
    rintro e w3 ⟨rfl, hw⟩
    subst w3
    go_wp2_with fail
    go_ret
    exact ⟨rfl, HB2.out⟩
  · have HB2 := Lib.hid (HB1.out.trans (hb2.mono HB1.out.size))
    have hz : zs.length = len := HE.out.1
    have HE2 := Lib.hid ((HE.out.up HB1.out).up hb2)
    have HN := Lib.hid hok
    have hn0 := hok.2.1.1
    have HS := row_elems' hown (shares_room hok)
    rw [hz] at HS hn0 ⊢
    have HS2 := Lib.hid HS
    have HZ := Lib.hid hz
    clear hb2 hok hown HS hz
    rcases HE2.out.2.2 with h0 | ⟨x, o, rfl, hc⟩
    · omega
    have HC : Hid (∀ j, j < len → w2.cell? ⟨x, o + j, none⟩ = some (.int .i64 (wgt zs j))) := hc
    clear hc
    go_wp2_with fail
    refine (refMay3_any T _ len cap zs true _ HE2.out (by omega) ⟨fun _ => HN.out, fun _ => rfl⟩).mono ?_
    rintro e w3 ⟨rfl, hw⟩
    subst w3
    go_wp2_with fail
    refine (refShares_walk T x o len cap zs _ HN.out HZ HC).mono ?_
    rintro e w3 ⟨g, c3, rfl, hown3, hb3⟩
    have G1 := row_elems' hown3 (shares_room HN.out)
    rw [HZ.out] at G1 ⊢
    have G2 := Lib.hid G1
    have G3 := Lib.hid (HS2.out.up hb3)
    have HB3 := Lib.hid (HB2.out.trans (hb3.mono HB2.out.size))
    clear G1 hown3 hb3
    go_wp2_with fail
    refine (same_eq _ _ len _ _ (sharesL T zs) _ G3.out G2.out (by omega)).mono ?_
    rintro e w4 ⟨rfl, q, rfl⟩
    go_wp2_with fail
    go_ret
    exact ⟨rfl, below_drewN HB3.out _⟩

theorem splitShares_walk (SH : Hid SharesC) (T : Int) (a : Option Addr) (len cap : Nat) (zs : List Int) (w : World) (hT : -9223372036854775808 ≤ T ∧ T ≤ 9223372036854775807) (h : IsRow .i64 w a len cap zs) :
    Calls Try.prog 3 #[.int .i64 T, .slice a len cap] w fun e w' => e = .returned (.bool true) ∧ Below w.heap.size w w' := by
  obtain ⟨h1, h2, h3⟩ := row_elems h
  by_cases hl : 500 < len
  · exact shares_long SH T a len cap w hl (by simp [maxLen] at h3; omega)
  · exact shares_law SH T a len cap _ w hT h1 (by omega) h2
end Go.Proofs.Ytkmoibikempieaa
