/- That chart's table lies in a world: out of a row's own condition (where the code reads no other variable). -/
import Derived.Test.YtcdkgfjjgebcnaaDoorKinLaid
namespace Go.Proofs.YtcdkgfjjgebcnaaDoor
open Go Go.RowKit

theorem kin_laid10 {W : World} {l : List (String × DataW Unit)} (h : laidMetH Tryd.prog l W) (hl : (l.all fun x => x.2.handleName?.isNone) = true) (m1 : ("trivet/chart.kinds", kinData) ∈ l) : Kin W := by
  rw [MakeChecks.laidMetH_plain _ _ _ hl] at h
  obtain ⟨ps, hv, _⟩ := h
  obtain ⟨g, t, cs, fuel, p, hg, ht, hvar, hd⟩ := laid_mem hv m1
  obtain rfl := Option.some.inj (gKinds.symm.trans hg)
  obtain rfl := Option.some.inj (gKindsType.symm.trans ht)
  have hrow := kin_row hd
  have hcell := fun i => World.var?_cell hg hvar i
  have hk0 := (hrow 0 (by omega)).1
  have q0 : W.cell? ⟨0, 3 * 0, none⟩ = some (.string (strL (namK 0))) := by rw [hcell]; simpa using hk0
  refine ⟨World.block_lt_of_cell? W _ q0, fun k hk => ?_, fun k hk => ?_, fun k hk => ?_⟩
  · rw [hcell]; simpa using (hrow k hk).1
  · rw [hcell]; simpa using (hrow k hk).2.1
  · rw [hcell]; simpa using (hrow k hk).2.2
end Go.Proofs.YtcdkgfjjgebcnaaDoor
