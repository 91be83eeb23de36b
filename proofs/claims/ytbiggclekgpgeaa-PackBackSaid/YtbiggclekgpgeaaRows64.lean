/- Rows of 64-bit integers of the call's own. -/
import Derived.Test.YtbiggclekgpgeaaBytes
import Derived.Test.YtbiggclekgpgeaaInts
namespace Go.Proofs.Ytbiggclekgpgeaa
open Go Go.RowKit
set_option linter.unusedVariables false

/-- an integer in memory -/
def iv (n : Int) : Value := .int .i64 n
theorem Ti64 : SliceT Try.prog 22 2 (.int .i64 0) 8 := ⟨Try.underlying22, info_i64, by decide⟩
theorem iv_one (ds : List Int) : ∀ u ∈ ds.map iv, u.oneCell' = true := by
  intro u hu
  obtain ⟨d, _, rfl⟩ := List.mem_map.1 hu
  rfl
theorem iv_snoc (l : List Int) (d : Int) : l.map iv ++ [iv d] = (l ++ [d]).map iv := by simp

theorem own_ints {w : World} {B n : Nat} {v : Value} {ds : List Int} (h : w.ownsRow B 2 1 v n (ds.map iv)) :
    ∃ a cap, v = .slice a n cap ∧ Cells w a n (ds.map iv) ∧ (a = none → cap = 0) ∧ n ≤ cap ∧ (∀ x, a = some x → B ≤ x.block) ∧ (0 < n → ∃ g, a = some ⟨g, 0, none⟩ ∧ B ≤ g ∧ ∀ j, j < n → w.cell? ⟨g, j, none⟩ = some (.int .i64 (ds.getD j 0))) := by
  have hl : ds.length = n := by have := h.1; rw [List.length_map] at this; omega
  rcases h.2 with ⟨rfl, rfl⟩ | ⟨g, cap, cur, rfl, hB, _, hc, _⟩
  · exact ⟨none, 0, rfl, ⟨by rw [List.length_map]; omega, Or.inl rfl⟩, fun _ => rfl, Nat.le_refl _, (fun x hx => by cases hx), fun h => absurd h (Nat.lt_irrefl _)⟩
  · have hcl := ownsRow_cells h
    refine ⟨_, cap, rfl, hcl, (fun h => by cases h), hc, (fun x hx => by cases hx; exact hB), fun hn => ⟨g, rfl, hB, fun j hj => ?_⟩⟩
    rcases hcl.2 with h0 | ⟨b, off, e, hcc⟩
    · omega
    · cases e
      have := hcc j hj
      rw [Nat.zero_add] at this
      rw [this]
      simp [List.getD, iv, show j < ds.length by omega]

theorem own_elems {w : World} {B n : Nat} {a : Option Addr} {cap : Nat} {ds : List Int} (h : w.ownsRow B 2 1 (.slice a n cap) n (ds.map iv)) (h64 : ∀ z ∈ ds, -9223372036854775808 ≤ z ∧ z ≤ 9223372036854775807) : Elems w a n ds := by
  have hl : ds.length = n := by have := h.1; rw [List.length_map] at this; omega
  refine ⟨hl, h64, ?_⟩
  obtain ⟨a', cap', e, _, _, _, _, hc⟩ := own_ints h
  cases e
  by_cases h0 : n = 0
  · exact Or.inl h0
  · obtain ⟨g, e, _, hcc⟩ := hc (by omega)
    exact Or.inr ⟨g, 0, e, fun j hj => by rw [Nat.zero_add]; exact hcc j hj⟩
end Go.Proofs.Ytbiggclekgpgeaa
