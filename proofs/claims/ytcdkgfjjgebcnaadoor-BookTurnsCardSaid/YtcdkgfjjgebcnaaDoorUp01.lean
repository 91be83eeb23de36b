/- The examples at the head of the statements of layer 1. -/
import Derived.Test.YtcdkgfjjgebcnaaDoorMulDiv
namespace Go.Proofs.YtcdkgfjjgebcnaaDoor
open Go Go.RowKit
set_option linter.unusedVariables false

end Go.Proofs.YtcdkgfjjgebcnaaDoor
