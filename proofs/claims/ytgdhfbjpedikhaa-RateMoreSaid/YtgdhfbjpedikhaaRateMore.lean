/- The walk of RateMore: a month's interest of more is no less; with a greater payment no more is left. -/
import Derived.Test.YtgdhfbjpedikhaaRateAny
namespace Go.Proofs.Ytgdhfbjpedikhaa
open Go Go.RowKit
set_option linter.unusedVariables false

/-- what the tests on two months come to -/
def MonTests (a b X KX Y KY : Int) : Prop :=
  (KX == 0) = false ∨ ((KX == 0) = true ∧ (KY == 0) = false) ∨ ((KX == 0) = true ∧ (KY == 0) = true ∧ b < a) ∨ ((KX == 0) = true ∧ (KY == 0) = true ∧ a ≤ b ∧ X ≤ Y)

theorem monTests (a b r : Int) : MonTests a b (monV a r) (monE a r) (monV b r) (monE b r) := by
  have h := @mon_more a b r
  unfold MonTests
  simp only [beq_eq_false_iff_ne, beq_iff_eq, ne_eq]
  generalize monV a r = x at *
  generalize monV b r = y at *
  generalize monE a r = kx at *
  generalize monE b r = ky at *
  by_cases h1 : kx = 0
  · by_cases h2 : ky = 0
    · by_cases h3 : a ≤ b
      · exact Or.inr (Or.inr (Or.inr ⟨h1, h2, h3, h h1 h2 h3⟩))
      · exact Or.inr (Or.inr (Or.inl ⟨h1, h2, by omega⟩))
    · exact Or.inr (Or.inl ⟨h1, h2⟩)
  · exact Or.inl h1

set_option maxHeartbeats 2000000 in
theorem rateMore_walk (a b r p m n : Int) (w : World) :
    Calls Try.prog 7 #[.int .i64 a, .int .i64 b, .int .i64 r, .int .i64 p, .int .i64 m, .int .i64 n] w fun e w' => e = .returned (.bool true) ∧ ∃ n, w' = World.drewN w n := by
  have ht := monTests a b r
  have hl := @left_more a r p m n
  obtain ⟨X, hX⟩ : ∃ x, monV a r = x := ⟨_, rfl⟩
  obtain ⟨KX, hKX⟩ : ∃ x, monE a r = x := ⟨_, rfl⟩
  obtain ⟨Y, hY⟩ : ∃ x, monV b r = x := ⟨_, rfl⟩
  obtain ⟨KY, hKY⟩ : ∃ x, monE b r = x := ⟨_, rfl⟩
  obtain ⟨U, hU⟩ : ∃ x, leftV a r p n = x := ⟨_, rfl⟩
  obtain ⟨KU, hKU⟩ : ∃ x, leftE a r p n = x := ⟨_, rfl⟩
  obtain ⟨V, hV⟩ : ∃ x, leftV a r m n = x := ⟨_, rfl⟩
  obtain ⟨KV, hKV⟩ : ∃ x, leftE a r m n = x := ⟨_, rfl⟩
  rw [hX, hKX, hY, hKY] at ht
  rw [hU, hKU, hV, hKV] at hl
  have HX := Lib.hid (And.intro hX hKX)
  have HY := Lib.hid (And.intro hY hKY)
  have HU := Lib.hid (And.intro hU hKU)
  have HV := Lib.hid (And.intro hV hKV)
  clear hX hKX hY hKY hU hKU hV hKV
  have rn := fun (w : World) (k : Int) => run_neq_errv_nil w k
  have re := fun (w : World) (k : Int) => run_eql_errv_nil w k
  have gn := guard_neq_errv_nil
  have ge := guard_eql_errv_nil
  have hl' : m < p ∨ (KU != 0) = true ∨ ((KU != 0) = false ∧ (KV == 0) = true ∧ V ≤ U) := by
    by_cases c : m < p
    · exact Or.inl c
    · by_cases d : KU = 0
      · have := hl d (by omega)
        exact Or.inr (Or.inr ⟨by simpa using d, by simpa using this.1, this.2⟩)
      · exact Or.inr (Or.inl (by simpa using d))
  clear hl
  by_cases hp : p < 0
  · clear hl'
    rcases ht with h1 | ⟨h1, h2⟩ | ⟨h1, h2, h3⟩ | ⟨h1, h2, h3, h4⟩
    all_goals
      go_enter Try.func7, Try.ntmps7
      go_wp2_with fail
      refine (up02_any _).mono ?_
      rintro e w' ⟨rfl, q, rfl⟩
      go_wp2_with fail
      refine (month_any a r X KX HX.out.1 HX.out.2 _).mono ?_
      rintro e w' ⟨rfl, q, rfl⟩
      go_wp2_with fail
      refine (month_any b r Y KY HY.out.1 HY.out.2 _).mono ?_
      rintro e w' ⟨rfl, q, rfl⟩
      go_wp2_with fail
      go_ret
      exact ⟨rfl, _, rfl⟩
  · by_cases hm : m < p
    · clear hl'
      rcases ht with h1 | ⟨h1, h2⟩ | ⟨h1, h2, h3⟩ | ⟨h1, h2, h3, h4⟩
      all_goals
        go_enter Try.func7, Try.ntmps7
        go_wp2_with fail
        refine (up02_any _).mono ?_
        rintro e w' ⟨rfl, q, rfl⟩
        go_wp2_with fail
        refine (month_any a r X KX HX.out.1 HX.out.2 _).mono ?_
        rintro e w' ⟨rfl, q, rfl⟩
        go_wp2_with fail
        refine (month_any b r Y KY HY.out.1 HY.out.2 _).mono ?_
        rintro e w' ⟨rfl, q, rfl⟩
        go_wp2_with fail
        go_ret
        exact ⟨rfl, _, rfl⟩
    · have hl2 : (KU != 0) = true ∨ ((KU != 0) = false ∧ (KV == 0) = true ∧ V ≤ U) := by
        rcases hl' with h | h | h
        · omega
        · exact Or.inl h
        · exact Or.inr h
      clear hl'
      rcases ht with h1 | ⟨h1, h2⟩ | ⟨h1, h2, h3⟩ | ⟨h1, h2, h3, h4⟩ <;> rcases hl2 with g1 | ⟨g1, g2, g3⟩
      all_goals
        go_enter Try.func7, Try.ntmps7
        go_wp2_with fail
        refine (up02_any _).mono ?_
        rintro e w' ⟨rfl, q, rfl⟩
        go_wp2_with fail
        refine (month_any a r X KX HX.out.1 HX.out.2 _).mono ?_
        rintro e w' ⟨rfl, q, rfl⟩
        go_wp2_with fail
        refine (month_any b r Y KY HY.out.1 HY.out.2 _).mono ?_
        rintro e w' ⟨rfl, q, rfl⟩
        go_wp2_with fail
        refine (left_any a r p n U KU HU.out.1 HU.out.2 _).mono ?_
        rintro e w' ⟨rfl, q, rfl⟩
        go_wp2_with fail
        refine (left_any a r m n V KV HV.out.1 HV.out.2 _).mono ?_
        rintro e w' ⟨rfl, q, rfl⟩
        go_wp2_with fail
        go_ret
        exact ⟨rfl, _, rfl⟩
end Go.Proofs.Ytgdhfbjpedikhaa
