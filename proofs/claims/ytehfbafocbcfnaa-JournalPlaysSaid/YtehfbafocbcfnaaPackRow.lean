/- What came in, as the walks of layer 6 ask for it. -/
import Derived.Test.YtehfbafocbcfnaaFrame2
import Derived.Test.YtehfbafocbcfnaaBytes
namespace Go.Proofs.Ytehfbafocbcfnaa
open Go Go.RowKit
set_option linter.unusedVariables false

theorem u8_nat {m : Int} (h : (Lit.int .u8 m).wf = true) : ∃ n : Nat, m = (n : Int) ∧ n < 256 := by
  have h' : 0 ≤ m ∧ m ≤ 255 := by simpa [Lit.wf, IntKind.min, IntKind.max, IntKind.signed, IntKind.bits] using h
  exact ⟨m.toNat, by omega, by omega⟩

theorem row_nil {k : IntKind} {w : World} {a : Option Addr} {len cap : Nat} {zs : List Int} (h : IsRow k w a len cap zs) : a = none → cap = 0 := by
  rcases h with ⟨_, _, h, _⟩ | ⟨x, rfl, _⟩
  · exact fun _ => h
  · exact fun h => by cases h

theorem row_bytes {w : World} {a : Option Addr} {len cap : Nat} {zs : List Int} (h : IsRow .u8 w a len cap zs) :
    ∃ bs : List Nat, Cells w a len (bs.map b8) ∧ (∀ b ∈ bs, b < 256) ∧ len ≤ cap ∧ cap ≤ maxLen ∧ (a = none → cap = 0) := by
  have hn := row_nil h
  rcases h with ⟨rfl, rfl, rfl, rfl⟩ | ⟨x, rfl, hl, hm, hz, hc, hwz⟩
  · exact ⟨[], ⟨rfl, Or.inl rfl⟩, (fun b hb => by cases hb), Nat.le_refl _, by simp [maxLen], hn⟩
  · have h256 : ∀ b ∈ zs, ∃ n : Nat, b = (n : Int) ∧ n < 256 := fun b hb => u8_nat (hwz b hb)
    refine ⟨(zs.take len).map Int.toNat, ⟨by rw [List.length_map, List.length_map, List.length_take]; omega, ?_⟩, ?_, hl, hm, hn⟩
    · by_cases h0 : len = 0
      · exact Or.inl h0
      · obtain ⟨b, off, rfl, hc'⟩ := ints_at hc (by omega)
        refine Or.inr ⟨b, off, rfl, fun j hj => ?_⟩
        rw [hc' j (by omega)]
        obtain ⟨n, hn1, hn2⟩ := h256 (zs.getD j 0) (by simp [List.getD, show j < zs.length by omega])
        have hg : ((zs.take len).map Int.toNat).getD j 0 = n := by
          simp only [List.getD, List.getElem?_map, List.getElem?_take, hj, if_true] at hn1 ⊢
          rw [List.getElem?_eq_getElem (show j < zs.length by omega)] at hn1 ⊢
          simp at hn1 ⊢
          omega
        have hlen : j < ((zs.take len).map Int.toNat).length := by rw [List.length_map, List.length_take]; omega
        rw [hn1]
        simp only [List.getD, List.getElem?_map] at hg ⊢
        rw [List.getElem?_eq_getElem (by rw [List.length_take]; omega)] at hg ⊢
        simp at hg ⊢
        simp [b8, hg]
    · intro b hb
      obtain ⟨z, hz1, rfl⟩ := List.mem_map.1 hb
      obtain ⟨n, hn1, hn2⟩ := h256 z (List.mem_of_mem_take hz1)
      omega
end Go.Proofs.Ytehfbafocbcfnaa
