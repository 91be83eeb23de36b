/- The walk of CentsBack: what was added is taken away again. -/
import Derived.Test.YtcdkgfjjgebcnaaDoorUp01
import Derived.Test.YtcdkgfjjgebcnaaDoorAdd
namespace Go.Proofs.YtcdkgfjjgebcnaaDoor
open Go Go.RowKit
set_option linter.unusedVariables false

theorem add_is (a b v k : Int) (ha : -9223372036854775808 ≤ a ∧ a ≤ 9223372036854775807) (hb : -9223372036854775808 ≤ b ∧ b ≤ 9223372036854775807)
    (hv : ovV (a + b) = v) (hk : ovE (a + b) = k) (w : World) :
    Calls Tryd.prog 53 #[.int .i64 a, .int .i64 b] w fun e w' => e = .returned (.tuple #[.int .i64 v, errv k]) ∧ w' = w := by
  rw [← hv, ← hk]; exact add_any a b ha hb w
end Go.Proofs.YtcdkgfjjgebcnaaDoor
