/- Rows of rows of bytes that came in. -/
import Derived.Test.YtehfbafocbcfnaaFrame3
import Derived.Test.YtehfbafocbcfnaaPackRow
import Derived.Test.YtehfbafocbcfnaaJrnK
namespace Go.Proofs.Ytehfbafocbcfnaa
open Go Go.ChangeShapes Go.WideShapes Go.RowKit
set_option linter.unusedVariables false

theorem rows_open {H : Type} {enc : TypeId × Value → H} {W : World} {a : Option Addr} {len cap : Nat} {d : DataW H} {p : List MemPlace}
    (h : DataW.Trod enc Try.prog W 0 (fun _ => true) true 53 (.slice a len cap) d p) : (∃ ls, RowsIn W a len ls) ∧ len ≤ cap ∧ cap ≤ maxLen := by
  obtain ⟨fuel, hf⟩ := h
  obtain ⟨h1, h2, -, h4⟩ := open_rows (z := 1) Try.underlying53 (by kernel_rfl) (by omega) hf
  refine ⟨?_, h1, h2⟩
  rcases h4 with h4 | ⟨b, o, rfl, h4⟩
  · subst h4; exact ⟨[], rfl, byts_nil, Or.inl rfl⟩
  · have each : ∀ i, i < len → ∃ (bs : List Nat) (aj : Option Addr) (cj : Nat), W.cell? ⟨b, o + i, none⟩ = some (.slice aj bs.length cj) ∧ Cells W aj bs.length (bs.map b8) ∧ (∀ x ∈ bs, x < 256) ∧ bs.length ≤ cj ∧ cj ≤ maxLen := fun i hi => by
      obtain ⟨n, cs, y, hl, hc, hy⟩ := h4 i hi
      match cs, hl with
      | [y0], _ =>
        have q0 := hc 0 (by omega)
        simp only [List.getElem?_cons_zero, Nat.add_zero, Nat.mul_one] at q0
        rcases open_ints Try.underlying27 Try.underlying5 (by kernel_rfl) hy with ⟨hcs, _⟩ | ⟨x, l, c, zs, hcs, _, hl, hm, hz, _, hcell, hwz⟩
        · simp at hcs
          subst hcs
          exact ⟨[], none, 0, q0, ⟨rfl, Or.inl rfl⟩, (fun _ h => by cases h), Nat.le_refl _, by simp [maxLen]⟩
        · simp at hcs
          subst hcs
          obtain ⟨bs, g1, g2, g3, g4, -⟩ := row_bytes (w := W) (a := some x) (len := l) (cap := c) (zs := zs) (.inr ⟨_, rfl, hl, hm, by simpa using hz, hcell, hwz⟩)
          have hbl : bs.length = l := by have := g1.1; rwa [List.length_map] at this
          exact ⟨bs, some x, c, by rw [hbl]; exact q0, by rw [hbl]; exact g1, g2, by rw [hbl]; exact g3, g4⟩
    let f : Fin len → List Nat := fun i => Classical.choose (each i.val i.isLt)
    have hf' : ∀ i : Fin len, ∃ (aj : Option Addr) (cj : Nat), W.cell? ⟨b, o + i.val, none⟩ = some (.slice aj (f i).length cj) ∧ Cells W aj (f i).length ((f i).map b8) ∧ (∀ x ∈ f i, x < 256) ∧ (f i).length ≤ cj ∧ cj ≤ maxLen := fun i => Classical.choose_spec (each i.val i.isLt)
    refine ⟨List.ofFn f, by simp, fun r hr => ?_, Or.inr ⟨b, o, rfl, fun j hj => ?_⟩⟩
    · rw [List.mem_ofFn] at hr
      obtain ⟨i, rfl⟩ := hr
      obtain ⟨aj, cj, -, -, h5, -⟩ := hf' i
      exact h5
    · obtain ⟨aj, cj, h5, h6, -, h7⟩ := hf' ⟨j, hj⟩
      have e : (List.ofFn f).getD j [] = f ⟨j, hj⟩ := by simp [List.getD, hj]
      rw [e]
      exact ⟨aj, cj, h5, h6, h7⟩
end Go.Proofs.Ytehfbafocbcfnaa
