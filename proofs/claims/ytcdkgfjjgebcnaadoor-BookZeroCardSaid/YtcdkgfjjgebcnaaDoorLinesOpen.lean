/- Lines that came in; a script of deeds that came in (layer 10). -/
import Derived.Test.YtcdkgfjjgebcnaaDoorFrame3
import Derived.Test.YtcdkgfjjgebcnaaDoorBookMem
namespace Go.Proofs.YtcdkgfjjgebcnaaDoor
open Go Go.ChangeShapes Go.WideShapes Go.RowKit
set_option linter.unusedVariables false

theorem slice_form {H : Type} {enc : TypeId × Value → H} {P : Program} {w : World} {base : Nat} {held : Bool} {t e : TypeId} {fuel : Nat} {cs : List Value} {x : DataW H × List MemPlace} (ht : P.underlying t = some (.slice e))
    (h : DataW.trod enc P w base (fun _ => true) held fuel t cs = some x) : ∃ a l c, cs = [.slice a l c] := by
  rcases DataW.trod_slice ht h with ⟨h1, -⟩ | ⟨x, len', cap', elems, rest, n, _, h1, -⟩
  · exact ⟨_, _, _, h1⟩
  · exact ⟨_, _, _, h1⟩

theorem part_of_struct_z {H : Type} {enc : TypeId × Value → H} {P : Program} {w : World} {base : Nat} {spare : Nat → Bool} {held : Bool} {t : TypeId} {fs : Array Field} {fuel : Nat} {cs : List Value} {x : DataW H × List MemPlace} (hs : P.underlying t = some (.struct fs))
    (h : DataW.trod enc P w base spare held fuel t cs = some x) (i : Nat) (f : Field) (hi : fs[i]? = some f) (z : Nat) (hz : P.cellsOf f.type = z) :
    ∃ n y, DataW.trod enc P w base spare held n f.type ((cs.drop f.offset).take z) = some y := hz ▸ part_of_struct hs h i f hi

theorem lines_trod {H : Type} {enc : TypeId × Value → H} {W : World} {fuel : Nat} {a : Option Addr} {len cap : Nat} {x : DataW H × List MemPlace}
    (hf : DataW.trod enc Tryd.prog W 0 (fun _ => true) true fuel 35 [.slice a len cap] = some x) : ∃ ls, LinesAt W a len ls ∧ OkL ls ∧ len ≤ cap ∧ cap ≤ maxLen ∧ (a = none → cap = 0) := by
  obtain ⟨h1, h2, h3, h4⟩ := open_rows (z := 3) Tryd.underlying35 (by kernel_rfl) (by omega) hf
  rcases h4 with h4 | ⟨b, o, rfl, h4⟩
  · subst h4; exact ⟨[], linesAt_nil _ _, (fun x hx => by cases hx), h1, h2, h3⟩
  have each : ∀ i, i < len → ∃ l : Ln, l.ok ∧ W.cell? ⟨b, o + i * 3, none⟩ = some (.int .i64 l.k) ∧ W.cell? ⟨b, o + i * 3 + 1, none⟩ = some (.int .i64 l.o) ∧ W.cell? ⟨b, o + i * 3 + 2, none⟩ = some (.int .i64 l.v) := fun i hi => by
    obtain ⟨n, cs, y, hl, hc, hy⟩ := h4 i hi
    match cs, hl with
    | [y0, y1, y2], _ =>
      obtain ⟨n1, ya, hya⟩ := part_of_struct_z Tryd.underlying56 hy 0 _ rfl 2 (by kernel_rfl)
      obtain ⟨b2, e2, k2⟩ := int_of_struct Tryd.underlying56 hy 1 _ rfl Tryd.underlying2 (by kernel_rfl)
      obtain ⟨b0, e0, k0⟩ := int_of_struct Tryd.underlying24 hya 0 _ rfl Tryd.underlying3 (by kernel_rfl)
      obtain ⟨b1, e1, k1⟩ := int_of_struct Tryd.underlying24 hya 1 _ rfl Tryd.underlying3 (by kernel_rfl)
      obtain rfl : y0 = _ := by simpa using e0
      obtain rfl : y1 = _ := by simpa using e1
      obtain rfl : y2 = _ := by simpa using e2
      have q0 := hc 0 (by omega)
      have q1 := hc 1 (by omega)
      have q2 := hc 2 (by omega)
      simp only [List.getElem?_cons_zero, List.getElem?_cons_succ, Nat.add_zero] at q0 q1 q2
      exact ⟨⟨b0, b1, b2⟩, ⟨i64_bounds k0, i64_bounds k1, i64_bounds k2⟩, q0, q1, q2⟩
  let f : Fin len → Ln := fun i => Classical.choose (each i.val i.isLt)
  have hf' : ∀ i : Fin len, (f i).ok ∧ W.cell? ⟨b, o + i.val * 3, none⟩ = some (.int .i64 (f i).k) ∧ W.cell? ⟨b, o + i.val * 3 + 1, none⟩ = some (.int .i64 (f i).o) ∧ W.cell? ⟨b, o + i.val * 3 + 2, none⟩ = some (.int .i64 (f i).v) := fun i => Classical.choose_spec (each i.val i.isLt)
  refine ⟨List.ofFn f, ⟨by simp, Or.inr ⟨b, o, rfl, fun j l hj => ?_⟩⟩, fun l hl => ?_, h1, h2, h3⟩
  · have hlt := (List.getElem?_eq_some_iff.1 hj).1
    rw [List.length_ofFn] at hlt
    have e : (List.ofFn f)[j]? = some (f ⟨j, hlt⟩) := by simp [hlt]
    rw [e, Option.some.injEq] at hj
    subst hj
    exact (hf' ⟨j, hlt⟩).2
  · rw [List.mem_ofFn] at hl
    obtain ⟨i, rfl⟩ := hl
    exact (hf' i).1

theorem lines_open {H : Type} {enc : TypeId × Value → H} {W : World} {a : Option Addr} {len cap : Nat} {d : DataW H} {p : List MemPlace}
    (h : DataW.Trod enc Tryd.prog W 0 (fun _ => true) true 35 (.slice a len cap) d p) : ∃ ls, LinesAt W a len ls ∧ OkL ls ∧ len ≤ cap ∧ cap ≤ maxLen ∧ (a = none → cap = 0) := by
  obtain ⟨fuel, hf⟩ := h
  exact lines_trod hf
end Go.Proofs.YtcdkgfjjgebcnaaDoor
