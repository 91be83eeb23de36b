/- The walks of SplitEven and SplitScales. -/
import Derived.Test.YtkmoibikempieaaSplitC
namespace Go.Proofs.Ytkmoibikempieaa
open Go Go.RowKit
set_option linter.unusedVariables false

def mayE (T n : Int) : Prop := 0 ≤ T ∧ T ≤ 10000000000000 ∧ 1 ≤ n ∧ n ≤ 480

def evenS (T n : Int) (j : Nat) : Int := T / n + if (j : Int) < T % n then 1 else 0

/-- what Even tells -/
def EvenTo (T n : Int) (w : World) (e : Ending) (w' : World) : Prop :=
  Below w.heap.size w w' ∧
  ((¬ mayE T n ∧ e = .returned (.tuple #[.slice none 0 0, .iface 29 (.int .i64 1)])) ∨
   (mayE T n ∧ ∃ b cap, n.toNat ≤ cap ∧ e = .returned (.tuple #[.slice (some ⟨b, 0, none⟩) n.toNat cap, .nilIface]) ∧ ∀ j, j < n.toNat → w'.cell? ⟨b, j, none⟩ = some (.int .i64 (evenS T n j))))

/-- the contract of Even -/
def EvenC : Prop := ∀ (T n : Int) (w : World), -9223372036854775808 ≤ T → T ≤ 9223372036854775807 → -9223372036854775808 ≤ n → n ≤ 9223372036854775807 →
  Calls Try.prog 14 #[.int .i64 T, .int .i64 n] w (EvenTo T n w)

set_option maxHeartbeats 4000000 in
theorem splitEven_walk (SH : Hid SharesC) (EV : Hid EvenC) (T n : Int) (w : World) (hT : -9223372036854775808 ≤ T ∧ T ≤ 9223372036854775807) (hn : -9223372036854775808 ≤ n ∧ n ≤ 9223372036854775807) :
    Calls Try.prog 4 #[.int .i64 T, .int .i64 n] w fun e w' => e = .returned (.bool true) ∧ Below w.heap.size w w' := by
  obtain ⟨T1, T2⟩ := hT
  obtain ⟨n1, n2⟩ := hn
  have r1 := fun w => run_eql_code w 1 1
  by_cases hm : mayE T n
  · obtain ⟨p1, p2, p3, p4⟩ := hm
    obtain ⟨N, rfl⟩ : ∃ N : Nat, n = (N : Int) := ⟨n.toNat, by omega⟩
    have hN : 0 < N := by omega
    go_enter Try.func4, Try.ntmps4
    go_wp2_with fail
    refine (up03_any SH _).mono ?_
    rintro e w1 ⟨rfl, hb1⟩
    have HB1 := Lib.hid hb1
    clear hb1
    go_wp2_with fail
    refine (EV.out T N _ T1 T2 n1 n2).mono ?_
    rintro e w2 ⟨hb2, ⟨hno, -⟩ | ⟨-, b, cap, hcap, rfl, hc⟩⟩
    · exact absurd ⟨p1, p2, p3, p4⟩ hno
    · have HB2 := Lib.hid (HB1.out.trans (hb2.mono HB1.out.size))
      rw [Int.toNat_natCast] at hc ⊢
      have HC := Lib.hid hc
      have t0 : ((N : Int) != (N : Int)) = false := by simp
      clear hc hb2
      go_wp2_with fail
      go_loop [8] (fun i => ∃ k : Nat, k ≤ N ∧ i = .int .i64 k) (fun i => N - (RowKit.intOf i).toNat)
      case atStart => exact ⟨0, Nat.zero_le _, rfl⟩
      case round =>
        obtain ⟨k, hk, rfl⟩ := hrel
        by_cases hlt : k < N
        · have c1 := HC.out k hlt
          have k0 : (0 : Int) ≤ (k : Int) := by omega
          have k1 : (k : Int) < (N : Int) := by omega
          have d0 : 0 ≤ T / (N : Int) := Int.ediv_nonneg p1 (by omega)
          have d1 : T / (N : Int) ≤ T := Int.ediv_le_self _ p1
          have d2 := Int.emod_nonneg T (show (N : Int) ≠ 0 by omega)
          have d3 := Int.emod_lt_of_pos T (show (0 : Int) < (N : Int) by omega)
          unfold evenS at c1
          by_cases hr : (k : Int) < T % (N : Int)
          · rw [if_pos hr] at c1
            have e1 : (T / (N : Int) + 1 != T / (N : Int) + 1) = false := by simp
            go_wp2_with fail
            go_round
            case rel => exact ⟨k + 1, by omega, by go_num⟩
            case measure => simp [RowKit.intOf]; omega
          · rw [if_neg hr, Int.add_zero] at c1
            have e1 : (T / (N : Int) != T / (N : Int)) = false := by simp
            go_wp2_with fail
            go_round
            case rel => exact ⟨k + 1, by omega, by go_num⟩
            case measure => simp [RowKit.intOf]; omega
        · have k1 : ¬ (k : Int) < (N : Int) := by omega
          go_wp2_with fail
          go_ret
          exact ⟨rfl, HB2.out⟩
  · have HM := Lib.hid hm
    have hc : T < 0 ∨ (0 ≤ T ∧ 10000000000000 < T) ∨ (0 ≤ T ∧ T ≤ 10000000000000 ∧ n < 1) ∨ (0 ≤ T ∧ T ≤ 10000000000000 ∧ 1 ≤ n ∧ 480 < n) := by
      unfold mayE at hm; omega
    clear hm
    rcases hc with h1 | ⟨h1, h2⟩ | ⟨h1, h2, h3⟩ | ⟨h1, h2, h3, h4⟩
    all_goals
      go_enter Try.func4, Try.ntmps4
      go_wp2_with fail
      refine (up03_any SH _).mono ?_
      rintro e w1 ⟨rfl, hb1⟩
      have HB1 := Lib.hid hb1
      clear hb1
      go_wp2_with fail
      refine (EV.out T n _ T1 T2 n1 n2).mono ?_
      rintro e w2 ⟨hb2, ⟨-, rfl⟩ | ⟨hyes, -⟩⟩
      · have HB2 := Lib.hid (HB1.out.trans (hb2.mono HB1.out.size))
        clear hb2
        go_wp2_with fail
        go_ret
        exact ⟨rfl, HB2.out⟩
      · exact absurd hyes HM.out
end Go.Proofs.Ytkmoibikempieaa
