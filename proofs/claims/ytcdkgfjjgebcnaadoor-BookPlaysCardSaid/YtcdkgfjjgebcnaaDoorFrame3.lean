/- A slice of structs that came in: its elements' cells. -/
import Derived.Test.YtcdkgfjjgebcnaaDoorFrame2
namespace Go.Proofs.YtcdkgfjjgebcnaaDoor
open Go Go.ChangeShapes Go.WideShapes Go.RowKit
section
variable {H : Type} {enc : TypeId × Value → H} {P : Program} {w : World} {base : Nat} {held : Bool}

theorem addr_plain (x : Addr) (hs : x.spot = none) (m : Nat) : x.add m = ⟨x.block, x.off + m, none⟩ := by
  obtain ⟨b, o, s⟩ := x
  simp only at hs
  subst hs
  by_cases h : m = 0 <;> simp [Addr.add, h]

theorem open_rows {t e : TypeId} {fuel : Nat} {a : Option Addr} {len cap : Nat} {x : DataW H × List MemPlace} {z : Nat} (ht : P.underlying t = some (.slice e)) (hz : P.cellsOf e = z) (h0 : 0 < z)
    (h : DataW.trod enc P w base (fun _ => true) held fuel t [.slice a len cap] = some x) :
    len ≤ cap ∧ cap ≤ maxLen ∧ (a = none → cap = 0) ∧ (len = 0 ∨ ∃ b o, a = some ⟨b, o, none⟩ ∧ ∀ i, i < len → ∃ n cs y, cs.length = z ∧ (∀ j, j < z → w.cell? ⟨b, o + i * z + j, none⟩ = cs[j]?) ∧ DataW.trod enc P w base (fun _ => true) held n e cs = some y) := by
  subst hz
  rcases DataW.trod_slice ht h with ⟨h1, -⟩ | ⟨x, len', cap', elems, rest, n, _, h1, rfl, hb, hl, hm, hlen, hel, hsp, hns⟩
  · simp at h1
    obtain ⟨rfl, rfl, rfl⟩ := h1
    exact ⟨Nat.le_refl _, by simp [maxLen], fun _ => rfl, Or.inl rfl⟩
  · simp at h1
    obtain ⟨rfl, rfl, rfl⟩ := h1
    refine ⟨hl, hm, (fun h => by cases h), ?_⟩
    by_cases hn : len = 0
    · exact Or.inl hn
    right
    have each : ∀ i, i < len → ∃ cs y, cs.length = P.cellsOf e ∧ (∀ j, j < P.cellsOf e → w.cell? ((x.add (i * P.cellsOf e)).add j) = cs[j]?) ∧ DataW.trod enc P w base (fun _ => true) held n e cs = some y := fun i hi => by
      have h2 := hel i hi
      rw [List.getElem?_eq_getElem (by omega), Option.bind_eq_some_iff] at h2
      obtain ⟨cs, hcs, hy⟩ := h2
      obtain ⟨-, hl2, hc2⟩ := World.cells?_some hcs
      exact ⟨cs, _, hl2, hc2, hy⟩
    have hspot : x.spot = none := by
      obtain ⟨cs, y, hl2, hc2, -⟩ := each 0 (by omega)
      have h3 := hc2 0 h0
      rw [List.getElem?_eq_getElem (by omega)] at h3
      have := World.cell?_spot h3
      simpa [Addr.add] using this
    refine ⟨x.block, x.off, by obtain ⟨b, o, s⟩ := x; simp only at hspot; subst hspot; rfl, fun i hi => ?_⟩
    obtain ⟨cs, y, hl2, hc2, hy⟩ := each i hi
    refine ⟨n, cs, y, hl2, fun j hj => ?_, hy⟩
    rw [← hc2 j hj, addr_plain x hspot, addr_plain _ rfl]
end
end Go.Proofs.YtcdkgfjjgebcnaaDoor
