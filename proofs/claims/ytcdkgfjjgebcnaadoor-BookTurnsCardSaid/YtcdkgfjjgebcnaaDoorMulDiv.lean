/- The contract of cents.MulDiv. -/
import Derived.Test.YtcdkgfjjgebcnaaDoorCents
namespace Go.Proofs.YtcdkgfjjgebcnaaDoor
open Go Go.RowKit
set_option linter.unusedVariables false

theorem mag_nat (a : Int) : mag a = ((a.natAbs : Nat) : Int) := by
  unfold mag; split <;> omega

end Go.Proofs.YtcdkgfjjgebcnaaDoor
