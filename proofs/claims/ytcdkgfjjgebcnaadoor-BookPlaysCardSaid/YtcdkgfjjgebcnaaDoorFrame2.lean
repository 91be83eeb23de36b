/- A struct that came in by value and holds a slice of integers; slices of bytes that came in. -/
import Derived.Test.YtcdkgfjjgebcnaaDoorFrame
import Derived.Test.YtcdkgfjjgebcnaaDoorInts
import Derived.ChangeSlices
namespace Go.Proofs.YtcdkgfjjgebcnaaDoor
open Go Go.ChangeShapes Go.WideShapes Go.RowKit
section
variable {H : Type} {enc : TypeId × Value → H} {P : Program} {w : World} {base : Nat} {held : Bool}

theorem ints_of_struct {t e : TypeId} {fs : Array Field} {fuel : Nat} {cs : List Value} {x : DataW H × List MemPlace} {k : IntKind} (hs : P.underlying t = some (.struct fs))
    (h : DataW.trod enc P w base (fun _ => true) held fuel t cs = some x) (i : Nat) (f : Field) (hi : fs[i]? = some f) (ht : P.underlying f.type = some (.slice e)) (he : P.underlying e = some (.int k)) (hce : P.cellsOf e = 1) (hc : P.cellsOf f.type = 1) :
    ∃ (a : Option Addr) (len cap : Nat) (zs : List Int), cs[f.offset]? = some (.slice a len cap) ∧ IsRow k w a len cap zs := by
  obtain ⟨n, y, hy⟩ := part_of_struct hs h i f hi
  rw [hc] at hy
  rcases open_ints ht he hce hy with ⟨hcs, _⟩ | ⟨x, l, c, zs, hcs, _, hl, hm, hz, _, hcell, hwz⟩
  · exact ⟨none, 0, 0, [], cell_of_part hcs, .inl ⟨rfl, rfl, rfl, rfl⟩⟩
  · exact ⟨some x, l, c, zs, cell_of_part hcs, .inr ⟨_, rfl, hl, hm, by simpa using hz, hcell, hwz⟩⟩
end
end Go.Proofs.YtcdkgfjjgebcnaaDoor
