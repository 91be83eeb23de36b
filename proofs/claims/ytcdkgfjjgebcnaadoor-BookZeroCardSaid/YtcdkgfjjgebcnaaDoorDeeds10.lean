/- A script of deeds that came in (layer 10). -/
import Derived.Test.YtcdkgfjjgebcnaaDoorLinesOpen
import Derived.Test.YtcdkgfjjgebcnaaDoorBookDeed
namespace Go.Proofs.YtcdkgfjjgebcnaaDoor
open Go Go.ChangeShapes Go.WideShapes Go.RowKit
set_option linter.unusedVariables false

theorem deeds10_open {H : Type} {enc : TypeId × Value → H} {W : World} {a : Option Addr} {len cap : Nat} {d : DataW H} {p : List MemPlace}
    (h : DataW.Trod enc Tryd.prog W 0 (fun _ => true) true 22 (.slice a len cap) d p) : ∃ vs, vs.length = len ∧ Deeds10 W a vs ∧ len ≤ cap ∧ cap ≤ maxLen := by
  obtain ⟨fuel, hf⟩ := h
  obtain ⟨h1, h2, -, h4⟩ := open_rows (z := 3) Tryd.underlying22 (by kernel_rfl) (by omega) hf
  rcases h4 with h4 | ⟨b, o, rfl, h4⟩
  · subst h4; exact ⟨[], rfl, Or.inl rfl, h1, h2⟩
  have each : ∀ i, i < len → ∃ v : DeedL, DeedLAt W b (o + i * 3) v ∧ v.Ok W := fun i hi => by
    obtain ⟨n, cs, y, hl, hc, hy⟩ := h4 i hi
    match cs, hl with
    | [y0, y1, y2], _ =>
      obtain ⟨b0, e0, k0⟩ := int_of_struct Tryd.underlying37 hy 0 _ rfl Tryd.underlying3 (by kernel_rfl)
      obtain ⟨b1, e1, k1⟩ := int_of_struct Tryd.underlying37 hy 1 _ rfl Tryd.underlying3 (by kernel_rfl)
      obtain ⟨n2, ya, hya⟩ := part_of_struct_z Tryd.underlying37 hy 2 _ rfl 1 (by kernel_rfl)
      obtain ⟨a2, l2, c2, e2⟩ := slice_form Tryd.underlying35 hya
      rw [e2] at hya
      obtain ⟨ls, g1, g2, g3, g4, g5⟩ := lines_trod hya
      have e2 := cell_of_part e2
      obtain rfl : y0 = _ := by simpa using e0
      obtain rfl : y1 = _ := by simpa using e1
      obtain rfl : y2 = _ := by simpa using e2
      have q0 := hc 0 (by omega)
      have q1 := hc 1 (by omega)
      have q2 := hc 2 (by omega)
      simp only [List.getElem?_cons_zero, List.getElem?_cons_succ, Nat.add_zero] at q0 q1 q2
      exact ⟨⟨b0, b1, a2, l2, c2, ls⟩, ⟨q0, q1, q2⟩, ⟨i64_bounds k0, i64_bounds k1, g1, g2, g3, g4, g5⟩⟩
  let f : Fin len → DeedL := fun i => Classical.choose (each i.val i.isLt)
  have hf' : ∀ i : Fin len, DeedLAt W b (o + i.val * 3) (f i) ∧ (f i).Ok W := fun i => Classical.choose_spec (each i.val i.isLt)
  refine ⟨List.ofFn f, by simp, Or.inr ⟨b, o, rfl, fun j v hj => ?_⟩, h1, h2⟩
  have hlt := (List.getElem?_eq_some_iff.1 hj).1
  rw [List.length_ofFn] at hlt
  have e : (List.ofFn f)[j]? = some (f ⟨j, hlt⟩) := by simp [hlt]
  rw [e, Option.some.injEq] at hj
  subst hj
  exact hf' ⟨j, hlt⟩
end Go.Proofs.YtcdkgfjjgebcnaaDoor
