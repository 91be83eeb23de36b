/- The contracts of package cents. -/
import Derived.Test.YtcdkgfjjgebcnaaDoorErr
import Derived.Test.YtcdkgfjjgebcnaaDoorInts
import Derived.Test.YtcdkgfjjgebcnaaDoorRnd
import Derived.Test.YtcdkgfjjgebcnaaDoorDiv
import Derived.WalkKit
import Derived.ProofKit
import Derived.LoopTactic
import Derived.Deep.QuietTactic
import Derived.BigQuiet
import Derived.Lib.Hide
import Derived.Deep.Draws
namespace Go.Proofs.YtcdkgfjjgebcnaaDoor
open Go Go.RowKit
set_option linter.unusedVariables false

theorem ret2 {a b : Int} {k j : Int} (h : a = b) (g : errv k = errv j) : Ending.returned (.tuple #[.int .i64 a, errv k]) = .returned (.tuple #[.int .i64 b, errv j]) := by rw [h, g]

theorem wrapU (a : Int) : IntKind.u64.wrap a = a % 18446744073709551616 := IntKind.wrap_u64 a

theorem ret1 {k : IntKind} {a b : Int} (h : a = b) : Ending.returned (.int k a) = .returned (.int k b) := by rw [h]

theorem retb {a b : Bool} (h : a = b) : Ending.returned (.bool a) = .returned (.bool b) := by rw [h]

end Go.Proofs.YtcdkgfjjgebcnaaDoor
