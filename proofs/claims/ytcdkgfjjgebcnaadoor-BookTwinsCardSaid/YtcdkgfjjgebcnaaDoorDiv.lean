/- math/bits.Div64: a contract, walked. -/
import Derived.Test.YtcdkgfjjgebcnaaDoorShelf
import Derived.Test.YtcdkgfjjgebcnaaDoorNum
import Derived.WalkKit
import Derived.ProofKit
import Derived.LoopTactic
import Derived.RegionTactic
import Derived.Deep.LoopGhost
import Derived.Lib.ItoaNum
import Derived.Deep.QuietTactic
import Derived.BigQuiet
import Derived.Lib.Hide
import Derived.Deep.Draws
namespace Go.Proofs.YtcdkgfjjgebcnaaDoor.Div
open Go Go.RowKit Go.Lib
set_option linter.unusedVariables false

theorem wrapM (a : Int) : IntKind.u64.wrap a = a % 18446744073709551616 := IntKind.wrap_u64 a

theorem round_sub {U x k r : Nat} (h : U * 4294967296 + x = k + r) (hr : r < 18446744073709551616) :
    IntKind.u64.wrap (IntKind.u64.wrap (IntKind.u64.wrap ((U : Int) * 4294967296) + (x : Int)) - IntKind.u64.wrap (k : Int)) = (r : Int) := by
  simp only [wrapM]
  omega

end Go.Proofs.YtcdkgfjjgebcnaaDoor.Div
