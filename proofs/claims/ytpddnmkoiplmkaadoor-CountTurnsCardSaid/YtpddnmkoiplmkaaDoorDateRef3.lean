/- The contract of the document's answer of layer 4: the day so many months behind. -/
import Derived.Test.YtpddnmkoiplmkaaDoorDateRef2
namespace Go.Proofs.YtpddnmkoiplmkaaDoor
open Go Go.RowKit
set_option linter.unusedVariables false

/-- the day so many months behind: none -/
def noMv (y m n : Int) : Prop := n < -3600 ∨ 3600 < n ∨ dm (mvY y m n) (mvM y m n) = 0
def mvD (y m d n : Int) : Int := min d (dm (mvY y m n) (mvM y m n))

def MonthsTo (y m d n : Int) (w : World) (e : Ending) (w' : World) : Prop :=
  Below w.heap.size w w' ∧
  ((noMv y m n ∧ e = .returned (.tuple #[.agg #[.int .i64 0, .int .i64 0, .int .i64 0], .bool false])) ∨
   (¬ noMv y m n ∧ e = .returned (.tuple #[.agg #[.int .i64 (mvY y m n), .int .i64 (mvM y m n), .int .i64 (mvD y m d n)], .bool true])))

def mbox (w : World) (y m d : Int) : World :=
  (w.alloc (Obj.cells #[.int .i64 y, .int .i64 m, .int .i64 d] 23)).alloc (Obj.cells #[.int .i64 0, .int .i64 0, .int .i64 0] 23)

theorem mv_up {y m k : Int} (h : mvM y m k + 1 ≤ 12) : mvY y m (k + 1) = mvY y m k ∧ mvM y m (k + 1) = mvM y m k + 1 := by unfold mvY mvM at *; omega
theorem mv_up' {y m k : Int} (h : 12 < mvM y m k + 1) : mvY y m (k + 1) = mvY y m k + 1 ∧ mvM y m (k + 1) = 1 := by unfold mvY mvM at *; omega
theorem mv_down {y m k : Int} (h : 1 ≤ mvM y m k - 1) : mvY y m (k - 1) = mvY y m k ∧ mvM y m (k - 1) = mvM y m k - 1 := by unfold mvY mvM at *; omega
theorem mv_down' {y m k : Int} (h : mvM y m k - 1 < 1) : mvY y m (k - 1) = mvY y m k - 1 ∧ mvM y m (k - 1) = 12 := by unfold mvY mvM at *; omega
theorem mv_year {y m k : Int} (hy : 1900 ≤ y) (hy' : y ≤ 2199) (hm : 1 ≤ m) (hm' : m ≤ 12) (hk : -3600 ≤ k) (hk' : k ≤ 3600) : 1500 ≤ mvY y m k ∧ mvY y m k ≤ 2600 := by unfold mvY; omega

end Go.Proofs.YtpddnmkoiplmkaaDoor
