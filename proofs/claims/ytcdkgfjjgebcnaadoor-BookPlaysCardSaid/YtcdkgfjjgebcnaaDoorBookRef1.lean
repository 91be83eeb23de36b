/- The document's books of layer 10 in memory. -/
import Derived.Test.YtcdkgfjjgebcnaaDoorBookK
import Derived.Test.YtcdkgfjjgebcnaaDoorBookNum3
import Derived.Test.YtcdkgfjjgebcnaaDoorLines
namespace Go.Proofs.YtcdkgfjjgebcnaaDoor
open Go Go.RowKit
set_option linter.unusedVariables false

theorem info_row : (Tryd.prog.info? 35).map (fun i => (i.zero, i.size, i.bytes)) = some (some (.slice none 0 0), 1, 24) := by kernel_rfl
theorem Trow : SliceT Tryd.prog 30 35 (.slice none 0 0) 24 := ⟨Tryd.underlying30, info_row, by decide⟩
theorem info_bl : (Tryd.prog.info? 4).map (fun i => (i.zero, i.size, i.bytes)) = some (some (.bool false), 1, 1) := by kernel_rfl
theorem Tbool : SliceT Tryd.prog 31 4 (.bool false) 1 := ⟨Tryd.underlying31, info_bl, by decide⟩

/-- entries as values: rows of lines -/
def RowsL (M : Nat → Prop) (rows : List Value) (L : List (List Ln)) (w : World) : Prop :=
  rows.length = L.length ∧ ∀ (j : Nat) (l : List Ln), L[j]? = some l → ∃ a c, rows[j]? = some (.slice a l.length c) ∧ LinesAt w a l.length l ∧ l.length ≤ c ∧ c ≤ maxLen ∧ (a = none → c = 0) ∧ ∀ x, a = some x → l.length = 0 ∨ M x.block

/-- books of the model at block g; M: its blocks; the three that are written are apart from all others -/
structure MBook (M : Nat → Prop) (g : Nat) (s : Bk) (w : World) : Prop where
  at' : ∃ (vL vD : Value) (rows : List Value) (E : Nat → Prop), Row g 33 [vL, vD] w ∧ w.ownsRow 0 35 1 vL s.L.length rows ∧ w.ownsRow 0 4 1 vD s.done.length (s.done.map Value.bool) ∧ RowsL E rows s.L w ∧
    M g ∧ (∀ k, vL.ownBlock = some k → M k ∧ k ≠ g ∧ vD.ownBlock ≠ some k) ∧ (∀ k, vD.ownBlock = some k → M k ∧ k ≠ g) ∧ ∀ k, E k → M k ∧ k ≠ g ∧ vL.ownBlock ≠ some k ∧ vD.ownBlock ≠ some k
  lt : ∀ k, M k → k < w.heap.size

theorem RowsL.up {M : Nat → Prop} {rows : List Value} {L : List (List Ln)} {w w' : World} (h : RowsL M rows L w) (hb : Below w.heap.size w w') : RowsL M rows L w' :=
  ⟨h.1, fun j l hj => by obtain ⟨a, c, h1, h2, h3⟩ := h.2 j l hj; exact ⟨a, c, h1, h2.up hb, h3⟩⟩
theorem RowsL.only {X M : Nat → Prop} {rows : List Value} {L : List (List Ln)} {w w' : World} (h : RowsL M rows L w) (ho : Only X w w') (hX : ∀ k, M k → ¬ X k) : RowsL M rows L w' :=
  ⟨h.1, fun j l hj => by
    obtain ⟨a, c, h1, h2, h3, h4, h5, h6⟩ := h.2 j l hj
    exact ⟨a, c, h1, h2.only ho fun x hx => (h6 x hx).elim Or.inl fun hm => Or.inr (hX _ hm), h3, h4, h5, h6⟩⟩
theorem RowsL.mono {M M' : Nat → Prop} {rows : List Value} {L : List (List Ln)} {w : World} (h : RowsL M rows L w) (hM : ∀ k, M k → M' k) : RowsL M' rows L w :=
  ⟨h.1, fun j l hj => by
    obtain ⟨a, c, h1, h2, h3, h4, h5, h6⟩ := h.2 j l hj
    exact ⟨a, c, h1, h2, h3, h4, h5, fun x hx => (h6 x hx).elim Or.inl fun hm => Or.inr (hM _ hm)⟩⟩
theorem ownsRow_upW {w w' : World} {base : Nat} {e : TypeId} {size : Nat} {v : Value} {n : Nat} {xs : List Value} (h : w.ownsRow base e size v n xs) (hb : ∀ k, v.ownBlock = some k → w'.heap[k]? = w.heap[k]?) : w'.ownsRow base e size v n xs := by
  obtain ⟨h1, h2⟩ := h
  refine ⟨h1, ?_⟩
  rcases h2 with h2 | ⟨g, cap, cur, hv, hg, hh, r⟩
  · exact Or.inl h2
  · exact Or.inr ⟨g, cap, cur, hv, hg, by rw [hb g (by rw [hv]; rfl)]; exact hh, r⟩

theorem MBook.up {M : Nat → Prop} {g : Nat} {s : Bk} {w w' : World} (h : MBook M g s w) (hb : Below w.heap.size w w') : MBook M g s w' := by
  obtain ⟨⟨vL, vD, rows, E, h1, h2, h3, h4, h5⟩, h6⟩ := h
  exact ⟨⟨vL, vD, rows, E, h1.up hb, ownsRow_upW h2 (fun k hk => hb.block k (h2.lt k hk).2), ownsRow_upW h3 (fun k hk => hb.block k (h3.lt k hk).2), h4.up hb, h5⟩, fun k hk => Nat.lt_of_lt_of_le (h6 k hk) hb.size⟩
theorem MBook.drewN {M : Nat → Prop} {g : Nat} {s : Bk} {w : World} (h : MBook M g s w) (q : Nat) : MBook M g s (w.drewN q) := h.up (below_drewN (Below.refl _ _) q)
theorem MBook.only {X M : Nat → Prop} {g : Nat} {s : Bk} {w w' : World} (h : MBook M g s w) (ho : Only X w w') (hX : ∀ k, M k → ¬ X k) : MBook M g s w' := by
  obtain ⟨⟨vL, vD, rows, E, h1, h2, h3, h4, hg, hl, hd, he⟩, h6⟩ := h
  exact ⟨⟨vL, vD, rows, E, h1.only ho (hX g hg), ownsRow_upW h2 (fun k hk => ho.block k (h2.lt k hk).2 (hX k (hl k hk).1)), ownsRow_upW h3 (fun k hk => ho.block k (h3.lt k hk).2 (hX k (hd k hk).1)), h4.only ho (fun k hk => hX k (he k hk).1), hg, hl, hd, he⟩, fun k hk => Nat.lt_of_lt_of_le (h6 k hk) ho.size⟩
theorem MBook.mono {M M' : Nat → Prop} {g : Nat} {s : Bk} {w : World} (h : MBook M g s w) (hM : ∀ k, M k → M' k) (hlt : ∀ k, M' k → k < w.heap.size) : MBook M' g s w := by
  obtain ⟨⟨vL, vD, rows, E, h1, h2, h3, h4, hg, hl, hd, he⟩, h6⟩ := h
  exact ⟨⟨vL, vD, rows, E, h1, h2, h3, h4, hM _ hg, fun k hk => ⟨hM _ (hl k hk).1, (hl k hk).2⟩, fun k hk => ⟨hM _ (hd k hk).1, (hd k hk).2⟩, fun k hk => ⟨hM _ (he k hk).1, (he k hk).2⟩⟩, hlt⟩

/-- a row of the call's own of one-cell elements, laid open -/
theorem own_open {w : World} {B n : Nat} {e : TypeId} {v : Value} {xs : List Value} (h : w.ownsRow B e 1 v n xs) :
    ∃ a c, v = .slice a n c ∧ n ≤ c ∧ c ≤ maxLen ∧ (a = none → c = 0 ∧ n = 0) ∧ ∀ j u, xs[j]? = some u → ∃ q, a = some ⟨q, 0, none⟩ ∧ w.cell? ⟨q, j, none⟩ = some u ∧ w.frozen? ⟨q, j, none⟩ = false := by
  have hl : xs.length = n := by have := h.1; omega
  rcases h.2 with ⟨rfl, h0⟩ | ⟨q, cap, cur, rfl, hB, hh, hc, hm, hs, ht⟩
  · subst h0
    refine ⟨none, 0, rfl, Nat.le_refl _, by simp [maxLen], fun _ => ⟨rfl, rfl⟩, fun j u hj => ?_⟩
    have := (List.getElem?_eq_some_iff.1 hj).1
    omega
  · refine ⟨_, cap, rfl, hc, hm, (fun h => by cases h), fun j u hj => ⟨q, rfl, ?_, h.frozenAt j⟩⟩
    have := (List.getElem?_eq_some_iff.1 hj).1
    rw [h.cellAt j (by omega)]; exact hj

/-- what the walks read of the model's books -/
theorem MBook.head {M : Nat → Prop} {g : Nat} {s : Bk} {w : World} (h : MBook M g s w) : ∃ aL cL aD cD, w.cell? ⟨g, 0, none⟩ = some (.slice aL s.L.length cL) ∧ w.cell? ⟨g, 1, none⟩ = some (.slice aD s.done.length cD) ∧ s.L.length ≤ cL ∧ s.done.length ≤ cD ∧ cL ≤ maxLen ∧
    (∀ j l, s.L[j]? = some l → ∃ q a c, aL = some ⟨q, 0, none⟩ ∧ w.cell? ⟨q, j, none⟩ = some (.slice a l.length c) ∧ LinesAt w a l.length l ∧ l.length ≤ c ∧ c ≤ maxLen ∧ (a = none → c = 0)) ∧
    (∀ j b, s.done[j]? = some b → ∃ q, aD = some ⟨q, 0, none⟩ ∧ w.cell? ⟨q, j, none⟩ = some (.bool b) ∧ w.frozen? ⟨q, j, none⟩ = false) := by
  obtain ⟨⟨vL, vD, rows, E, h1, h2, h3, h4, hg, hl, hd, he⟩, h6⟩ := h
  obtain ⟨aL, cL, rfl, q1, q2, q3, q4⟩ := own_open h2
  obtain ⟨aD, cD, rfl, r1, r2, r3, r4⟩ := own_open h3
  refine ⟨aL, cL, aD, cD, h1.cell (j := 0) (by simp), h1.cell (j := 1) (by simp), q1, r1, q2, fun j l hj => ?_, fun j b hj => ?_⟩
  · obtain ⟨a, c, e1, e2, e3, e4, e5, -⟩ := h4.2 j l hj
    obtain ⟨q, e6, e7, -⟩ := q4 j _ e1
    exact ⟨q, a, c, e6, e7, e2, e3, e4, e5⟩
  · obtain ⟨q, e6, e7, e8⟩ := r4 j (.bool b) (by rw [List.getElem?_map, hj]; rfl)
    exact ⟨q, e6, e7, e8⟩

theorem mbook_zero (w : World) : MBook (fun k => k = w.heap.size) w.heap.size Bk.zero (w.alloc (Obj.cells #[.slice none 0 0, .slice none 0 0] 33)) := by
  refine ⟨⟨.slice none 0 0, .slice none 0 0, [], fun _ => False, Row.new w [.slice none 0 0, .slice none 0 0] _, World.ownsRow_nil _ _ _ _, World.ownsRow_nil _ _ _ _, ⟨rfl, fun j l hj => by simp [Bk.zero] at hj⟩, rfl, (fun k hk => by cases hk), (fun k hk => by cases hk), fun k hk => hk.elim⟩, fun k hk => by rw [hk]; simp⟩
end Go.Proofs.YtcdkgfjjgebcnaaDoor
