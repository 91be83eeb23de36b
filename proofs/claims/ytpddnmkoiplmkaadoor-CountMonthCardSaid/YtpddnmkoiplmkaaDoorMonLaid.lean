/- The table of months' days, out of a row's own condition. -/
import Derived.Test.YtpddnmkoiplmkaaDoorMon
import Derived.Lib.LaidTab
import Derived.MakeChecks
import Derived.LaidMore
namespace Go.Proofs.YtpddnmkoiplmkaaDoor
open Go Go.RowKit

theorem gMon : Tryd.prog.globalNamed "trivet/date.monthDays" = some 0 := by kernel_rfl
theorem gMonType : (Tryd.prog.globals[0]?).map (·.type) = some 69 := by kernel_rfl

theorem mon_laid {W : World} {rest : List (String × DataW Unit)} (h : laidMet Tryd.prog (("trivet/date.monthDays", Lib.tabData .i64 [31, 28, 31, 30, 31, 30, 31, 31, 30, 31, 30, 31]) :: rest) W) : Mon W := by
  have hT : Lib.TabIs Tryd.prog W "trivet/date.monthDays" .i64 [31, 28, 31, 30, 31, 30, 31, 31, 30, 31, 30, 31] := Lib.tabIs_of_head gMon gMonType Tryd.underlying69 Tryd.underlying3 (by kernel_rfl) (by kernel_rfl) h
  have hc : ∀ i : Nat, i < 12 → W.cell? ⟨0, i, none⟩ = some (.int .i64 (mt i)) := fun i hi => by
    rw [hT.cell gMon i hi]
    have h : i = 0 ∨ i = 1 ∨ i = 2 ∨ i = 3 ∨ i = 4 ∨ i = 5 ∨ i = 6 ∨ i = 7 ∨ i = 8 ∨ i = 9 ∨ i = 10 ∨ i = 11 := by omega
    rcases h with rfl | rfl | rfl | rfl | rfl | rfl | rfl | rfl | rfl | rfl | rfl | rfl <;> rfl
  exact ⟨World.block_lt_of_cell? W _ (hc 0 (by omega)), hc⟩

theorem mon_laidH {W : World} (h : laidMetH Tryd.prog [("trivet/date.monthDays", Lib.tabData .i64 [31, 28, 31, 30, 31, 30, 31, 31, 30, 31, 30, 31])] W) : Mon W := by
  rw [MakeChecks.laidMetH_plain _ _ _ (by kernel_rfl)] at h
  exact mon_laid h
end Go.Proofs.YtpddnmkoiplmkaaDoor
