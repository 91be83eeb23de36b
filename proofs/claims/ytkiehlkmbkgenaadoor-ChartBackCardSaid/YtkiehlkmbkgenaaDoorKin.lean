/- What package chart reads of package-level variables: its table of kinds, and what strings.Cut, strconv.Itoa and strconv.Atoi read; that it lies in a world. -/
import Derived.Test.YtkiehlkmbkgenaaDoorChartNum
import Derived.Test.YtkiehlkmbkgenaaDoorProg
import Derived.Below
import Derived.WalkSmall
import Derived.WalkKit
import Derived.Lib.LaidTab
import Derived.Lib.ItoaMem
namespace Go.Proofs.YtkiehlkmbkgenaaDoor
open Go Go.RowKit
set_option linter.unusedVariables false

/-- the table's rows: a kind's name, its greatest Of, its side -/
def namK (k : Nat) : List UInt8 := if k = 0 then [] else nam k
def moK (k : Nat) : Int := if k ≤ 3 then 0 else 65536
def deK (k : Nat) : Bool := k == 1 || k == 2 || k == 3 || k == 7 || k == 12

/-- the tables lie in this world -/
structure Kin (w : World) : Prop where
  size : 0 < w.heap.size ∧ 1 < w.heap.size ∧ 2 < w.heap.size ∧ 3 < w.heap.size ∧ 4 < w.heap.size
  nm : ∀ k : Nat, k < 13 → w.cell? ⟨0, 3 * k, none⟩ = some (.string (strL (namK k)))
  mo : ∀ k : Nat, k < 13 → w.cell? ⟨0, 3 * k + 1, none⟩ = some (.int .i64 (moK k))
  de : ∀ k : Nat, k < 13 → w.cell? ⟨0, 3 * k + 2, none⟩ = some (.bool (deK k))
  max : ∃ m, w.cell? ⟨1, 0, none⟩ = some (.int .i64 m)
  syn : ∃ ev, w.cell? ⟨2, 0, none⟩ = some ev ∧ (ev = .nilIface ∨ ∃ te pe, ev = .iface te pe)
  rng : ∃ ev, w.cell? ⟨3, 0, none⟩ = some ev ∧ (ev = .nilIface ∨ ∃ te pe, ev = .iface te pe)
  tab : Lib.TabIs Tryd.prog w "internal/strconv.uint64pow10" .u64 Lib.pow10Tab

theorem gPow : Tryd.prog.globalNamed "internal/strconv.uint64pow10" = some 4 := by kernel_rfl

theorem Kin.of {w w' : World} (h : Kin w) (hb : Below w.heap.size w w') : Kin w' := by
  obtain ⟨⟨s1, s2, s3, s4, s5⟩, h1, h2, h3, h4, h5, h6, h7⟩ := h
  refine ⟨⟨Nat.lt_of_lt_of_le s1 hb.size, Nat.lt_of_lt_of_le s2 hb.size, Nat.lt_of_lt_of_le s3 hb.size, Nat.lt_of_lt_of_le s4 hb.size, Nat.lt_of_lt_of_le s5 hb.size⟩,
    fun k hk => by rw [hb.cell (p := ⟨_, _, none⟩) s1]; exact h1 k hk, fun k hk => by rw [hb.cell (p := ⟨_, _, none⟩) s1]; exact h2 k hk, fun k hk => by rw [hb.cell (p := ⟨_, _, none⟩) s1]; exact h3 k hk,
    by rw [hb.cell (p := ⟨_, _, none⟩) s2]; exact h4, by rw [hb.cell (p := ⟨_, _, none⟩) s3]; exact h5, by rw [hb.cell (p := ⟨_, _, none⟩) s4]; exact h6, ?_⟩
  unfold Lib.TabIs World.var? at *
  rw [gPow] at *
  simp only [Option.bind_some] at *
  rw [hb.block _ s5]
  exact h7
theorem Kin.alloc {w : World} (h : Kin w) (o : Obj) : Kin (w.alloc o) := h.of ((Below.refl _ _).alloc (Nat.le_refl _) o)
theorem Kin.drewN {w : World} (h : Kin w) (n : Nat) : Kin (w.drewN n) := h.of (below_drewN (Below.refl _ _) n)
theorem Kin.drew {w : World} (h : Kin w) : Kin w.drew := h.of (Below.refl _ _).drew
end Go.Proofs.YtkiehlkmbkgenaaDoor
