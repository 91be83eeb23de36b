/- A script of deeds that came in (layer 8). -/
import Derived.Test.YtehfbafocbcfnaaFrame3
import Derived.Test.YtehfbafocbcfnaaPackRow
import Derived.Test.YtehfbafocbcfnaaJrnL6
namespace Go.Proofs.Ytehfbafocbcfnaa
open Go Go.ChangeShapes Go.WideShapes Go.RowKit
set_option linter.unusedVariables false

theorem deeds8_open {H : Type} {enc : TypeId × Value → H} {W : World} {a : Option Addr} {len cap : Nat} {d : DataW H} {p : List MemPlace}
    (h : DataW.Trod enc Try.prog W 0 (fun _ => true) true 22 (.slice a len cap) d p) : Deeds8 W a len ∧ len ≤ cap ∧ cap ≤ maxLen := by
  obtain ⟨fuel, hf⟩ := h
  obtain ⟨h1, h2, -, h4⟩ := open_rows (z := 4) Try.underlying22 (by kernel_rfl) (by omega) hf
  refine ⟨?_, h1, h2⟩
  rcases h4 with h4 | ⟨b, o, rfl, h4⟩
  · exact Or.inl h4
  refine Or.inr ⟨b, o, rfl, fun i hi => ?_⟩
  obtain ⟨n, cs, y, hl, hc, hy⟩ := h4 i hi
  match cs, hl with
  | [y0, y1, y2, y3], _ =>
    obtain ⟨b0, e0, k0⟩ := int_of_struct Try.underlying30 hy 0 _ rfl Try.underlying3 (by kernel_rfl)
    obtain ⟨b1, e1, k1⟩ := int_of_struct Try.underlying30 hy 1 _ rfl Try.underlying3 (by kernel_rfl)
    obtain ⟨b2, l2, c2, z2, e2, k2⟩ := ints_of_struct Try.underlying30 hy 2 _ rfl Try.underlying27 Try.underlying5 (by kernel_rfl) (by kernel_rfl)
    obtain ⟨b3, l3, c3, z3, e3, k3⟩ := ints_of_struct Try.underlying30 hy 3 _ rfl Try.underlying28 Try.underlying3 (by kernel_rfl) (by kernel_rfl)
    obtain rfl : y0 = _ := by simpa using e0
    obtain rfl : y1 = _ := by simpa using e1
    obtain rfl : y2 = _ := by simpa using e2
    obtain rfl : y3 = _ := by simpa using e3
    obtain ⟨bs, g1, g2, g3, g4, -⟩ := row_bytes k2
    obtain ⟨g5, g6, g7⟩ := row_elems k3
    have q0 := hc 0 (by omega)
    have q1 := hc 1 (by omega)
    have q2 := hc 2 (by omega)
    have q3 := hc 3 (by omega)
    simp only [List.getElem?_cons_zero, List.getElem?_cons_succ, Nat.add_zero] at q0 q1 q2 q3
    exact ⟨⟨b0, b1, b2, l2, c2, bs, b3, l3, c3, _⟩, ⟨q0, q1, q2, q3⟩, ⟨i64_bounds k0, i64_bounds k1, g1, g2, g3, g4, g5, g6, g7⟩⟩
end Go.Proofs.Ytehfbafocbcfnaa
