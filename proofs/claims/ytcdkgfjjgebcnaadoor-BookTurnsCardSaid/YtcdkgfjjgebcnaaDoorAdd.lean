/- The contracts of cents.Add and cents.Sub. -/
import Derived.Test.YtcdkgfjjgebcnaaDoorCents
namespace Go.Proofs.YtcdkgfjjgebcnaaDoor
open Go Go.RowKit
set_option linter.unusedVariables false

set_option maxHeartbeats 400000 in
theorem add_any (a b : Int) (ha : -9223372036854775808 ≤ a ∧ a ≤ 9223372036854775807) (hb : -9223372036854775808 ≤ b ∧ b ≤ 9223372036854775807) (w : World) :
    Calls Tryd.prog 53 #[.int .i64 a, .int .i64 b] w fun e w' => e = .returned (.tuple #[.int .i64 (ovV (a + b)), errv (ovE (a + b))]) ∧ w' = w := by
  by_cases h : -9223372036854775808 ≤ a + b ∧ a + b ≤ 9223372036854775807
  · obtain ⟨h1, h2⟩ := ov_in h
    rw [h1, h2, errv_0]
    clear h1 h2
    by_cases c1 : a < 0 <;> by_cases c2 : b < 0 <;> by_cases c3 : a + b < 0
    all_goals first
      | (exfalso; omega)
      | (go_enter Tryd.func53, Tryd.ntmps53
         go_wp2
         go_ret2
         exact ⟨rfl, rfl⟩)
  · obtain ⟨h1, h2⟩ := ov_out h
    rw [h1, h2, errv_3]
    clear h1 h2
    by_cases c1 : a < 0
    · have c2 : b < 0 := by omega
      have c3 : ¬ wrap64 (a + b) < 0 := by unfold wrap64; omega
      go_enter Tryd.func53, Tryd.ntmps53
      go_wp2
      go_ret2
      exact ⟨rfl, rfl⟩
    · have c2 : ¬ b < 0 := by omega
      have c3 : wrap64 (a + b) < 0 := by unfold wrap64; omega
      go_enter Tryd.func53, Tryd.ntmps53
      go_wp2
      go_ret2
      exact ⟨rfl, rfl⟩

end Go.Proofs.YtcdkgfjjgebcnaaDoor
