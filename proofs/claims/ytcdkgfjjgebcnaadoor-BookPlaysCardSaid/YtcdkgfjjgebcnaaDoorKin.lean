/- What package chart reads of package-level variables: its table of kinds, and what strings.Cut, strconv.Itoa and strconv.Atoi read; that it lies in a world. -/
import Derived.Test.YtcdkgfjjgebcnaaDoorChartNum
import Derived.Test.YtcdkgfjjgebcnaaDoorProg
import Derived.Below
import Derived.WalkSmall
import Derived.WalkKit
import Derived.Lib.LaidTab
import Derived.Lib.ItoaMem
namespace Go.Proofs.YtcdkgfjjgebcnaaDoor
open Go Go.RowKit
set_option linter.unusedVariables false

/-- the table's rows: a kind's name, its greatest Of, its side -/
def namK (k : Nat) : List UInt8 := if k = 0 then [] else nam k
def moK (k : Nat) : Int := if k ≤ 3 then 0 else 65536
def deK (k : Nat) : Bool := k == 1 || k == 2 || k == 3 || k == 7 || k == 12

/-- the tables lie in this world -/
structure Kin (w : World) : Prop where
  s1 : 0 < w.heap.size
  nm : ∀ k : Nat, k < 13 → w.cell? ⟨0, 3 * k, none⟩ = some (.string (strL (namK k)))
  mo : ∀ k : Nat, k < 13 → w.cell? ⟨0, 3 * k + 1, none⟩ = some (.int .i64 (moK k))
  de : ∀ k : Nat, k < 13 → w.cell? ⟨0, 3 * k + 2, none⟩ = some (.bool (deK k))
theorem Kin.of {w w' : World} (h : Kin w) (hb : Below w.heap.size w w') : Kin w' where
  s1 := show 0 < w'.heap.size from Nat.lt_of_lt_of_le h.s1 hb.size
  nm := fun k hk => by rw [hb.cell (p := ⟨_, _, none⟩) h.s1]; exact h.nm k hk
  mo := fun k hk => by rw [hb.cell (p := ⟨_, _, none⟩) h.s1]; exact h.mo k hk
  de := fun k hk => by rw [hb.cell (p := ⟨_, _, none⟩) h.s1]; exact h.de k hk
theorem Kin.alloc {w : World} (h : Kin w) (o : Obj) : Kin (w.alloc o) := h.of ((Below.refl _ _).alloc (Nat.le_refl _) o)
theorem Kin.drewN {w : World} (h : Kin w) (n : Nat) : Kin (w.drewN n) := h.of (below_drewN (Below.refl _ _) n)
theorem Kin.drew {w : World} (h : Kin w) : Kin w.drew := h.of (Below.refl _ _).drew
end Go.Proofs.YtcdkgfjjgebcnaaDoor
