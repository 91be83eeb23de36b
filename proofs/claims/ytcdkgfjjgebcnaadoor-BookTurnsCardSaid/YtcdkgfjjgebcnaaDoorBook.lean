/- The landed package book keeps its contract. -/
import Derived.Test.YtcdkgfjjgebcnaaDoorBkClone
import Derived.Test.YtcdkgfjjgebcnaaDoorBkTrial
namespace Go.Proofs.YtcdkgfjjgebcnaaDoor
open Go Go.RowKit
set_option linter.unusedVariables false

theorem plusF_new {F : Nat → Prop} {w W : World} : ∀ k, PlusF F w W k → F k ∨ w.heap.size ≤ k := fun k hk => hk.elim Or.inl fun h => Or.inr h.1

theorem book_holds : BookC BB where
  lt := fun h k hk => by obtain ⟨g, m, v, es, rfl, H⟩ := h; exact H.lt k hk
  kin := fun h => by obtain ⟨g, m, v, es, rfl, H⟩ := h; exact H.kin
  keep := fun h ho hX T => by
    obtain ⟨g, m, v, es, rfl, H⟩ := h
    exact ⟨g, m, v, es, rfl, H.only ho hX T⟩
  new := fun w T => new10_any w T
  post := fun {F p s w} a n c ls h hl hok hx hc hm hn => by
    obtain ⟨g, m, v, es, rfl, H⟩ := h
    refine (post10_any a n c ls w H hl hok hx hc hn).mono ?_
    rintro e w' ⟨hO, ⟨h0, rfl, v', es', hB⟩ | ⟨h0, rfl, hB⟩⟩
    · refine ⟨hO, PlusF F w w', plusF_new, Or.inl ⟨h0, rfl, g, m, v', es', rfl, ?_⟩⟩
      have e : (s.post ls).L.length = s.L.length + 1 := by simp [Bk.post]
      rw [e]
      exact hB
    · exact ⟨hO, F, fun k hk => Or.inl hk, Or.inr ⟨h0, rfl, g, m, v, es, rfl, hB⟩⟩
  reverse := fun {F p s w} n h hn => by
    obtain ⟨g, m, v, es, rfl, H⟩ := h
    refine (reverse10_any n w H hn).mono ?_
    rintro e w' ⟨hO, ⟨h0, rfl, v', es', hB⟩ | ⟨h0, rfl, hB⟩⟩
    · refine ⟨hO, PlusF F w w', plusF_new, Or.inl ⟨h0, rfl, g, m, v', es', rfl, ?_⟩⟩
      have e : (s.rev n).L.length = s.L.length + 1 := by simp [Bk.rev]
      rw [e]
      exact hB
    · exact ⟨hO, F, fun k hk => Or.inl hk, Or.inr ⟨h0, rfl, g, m, v, es, rfl, hB⟩⟩
  balance := fun {F p s w} k o h hk ho => by
    obtain ⟨g, m, v, es, rfl, H⟩ := h
    exact balance10_any k o w H hk ho
  entry := fun {F p s w} n h hn => by
    obtain ⟨g, m, v, es, rfl, H⟩ := h
    exact entry10_any n w H hn
  len := fun {F p s w} h => by
    obtain ⟨g, m, v, es, rfl, H⟩ := h
    refine (len10_any w H).mono ?_
    rintro e w' ⟨rfl, rfl⟩
    exact ⟨Below.refl _ _, rfl⟩
  trial := fun {F p s w} h => by
    obtain ⟨g, m, v, es, rfl, H⟩ := h
    exact trial10_any w H
  clone := fun {F p s w} h => by
    obtain ⟨g, m, v, es, rfl, H⟩ := h
    refine (clone10_any w H).mono ?_
    rintro e w' ⟨hb, q, G, rfl, hB, hG⟩
    exact ⟨hb, q, G, rfl, hB, hG⟩
theorem book_any : ∃ B, BookC B := ⟨BB, book_holds⟩
end Go.Proofs.YtcdkgfjjgebcnaaDoor
