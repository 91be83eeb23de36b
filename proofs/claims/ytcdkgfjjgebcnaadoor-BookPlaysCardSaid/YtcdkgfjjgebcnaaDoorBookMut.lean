/- The document's books of layer 10: what is written of them. -/
import Derived.Test.YtcdkgfjjgebcnaaDoorBookRef1
namespace Go.Proofs.YtcdkgfjjgebcnaaDoor
open Go Go.RowKit
set_option linter.unusedVariables false

theorem Only.grown {X : Nat → Prop} {a w w' : World} {row : Option Nat} (h : Only X a w) (hg : w.grownBy w' row) (hr : ∀ k, row = some k → X k) : Only X a w' :=
  h.trans ⟨hg.os, hg.tape, hg.output, hg.size, fun k hk hF => hg.block k hk (fun e => hF (hr k e.symm))⟩
theorem Only.weak {X Y : Nat → Prop} {a w : World} (h : Only X a w) (hX : ∀ k, X k → Y k) : Only Y a w := h.mono fun k _ => hX k
theorem own_only {X : Nat → Prop} {w w' : World} {base : Nat} {e : TypeId} {size : Nat} {v : Value} {n : Nat} {xs : List Value} (h : w.ownsRow base e size v n xs) (ho : Only X w w') (hX : ∀ k, v.ownBlock = some k → ¬ X k) : w'.ownsRow base e size v n xs :=
  ownsRow_upW h fun k hk => ho.block k (h.lt k hk).2 (hX k hk)

section
variable {M E : Nat → Prop} {g : Nat} {s : Bk} {w w1 w2 : World} {vL vD : Value} {rows : List Value}

/-- an entry's row stands behind all -/
theorem mbook_row {ls : List Ln} {v1 v2 : Value} {a4 : Option Addr} {c4 : Nat} {o : Obj} (hR : Row g 33 [vL, vD] w) (h2 : w.ownsRow 0 35 1 vL s.L.length rows) (h3 : w.ownsRow 0 4 1 vD s.done.length (s.done.map Value.bool)) (h4 : RowsL E rows s.L w)
    (hg : M g) (hl : ∀ k, vL.ownBlock = some k → M k ∧ k ≠ g ∧ vD.ownBlock ≠ some k) (hd : ∀ k, vD.ownBlock = some k → M k ∧ k ≠ g) (he : ∀ k, E k → M k ∧ k ≠ g ∧ vL.ownBlock ≠ some k ∧ vD.ownBlock ≠ some k) (hlt : ∀ k, M k → k < w.heap.size)
    (hb1 : Below w.heap.size w w1) (hv1 : v1 = .slice a4 ls.length c4) (o1 : OwnsL w.heap.size v1 ls w1)
    (hr2 : w2.ownsRow 0 35 1 v2 (s.L.length + 1) (rows ++ [v1])) (q2 : (w1.alloc o).grownBy w2 vL.ownBlock) (l2 : v2.ownBlock = vL.ownBlock ∨ v2.ownBlock = some (w1.alloc o).heap.size) :
    MBook (PlusK M w (w2.setCell ⟨g, 0, none⟩ v2)) g ⟨s.L ++ [ls], s.done⟩ (w2.setCell ⟨g, 0, none⟩ v2) ∧ Only M w (w2.setCell ⟨g, 0, none⟩ v2) := by
  have hgl := hlt g hg
  have hsz1 : w.heap.size ≤ w1.heap.size := hb1.size
  have hsz2 : w1.heap.size + 1 ≤ w2.heap.size := by have := q2.size; rwa [World.size_alloc] at this
  have hX1 : Only (fun k => k = g ∨ vL.ownBlock = some k) w1 (w2.setCell ⟨g, 0, none⟩ v2) := (((Only.refl (fun k => k = g ∨ vL.ownBlock = some k) w1).alloc o).grown q2 (fun k hk => Or.inr hk)).setCell (p := ⟨g, 0, none⟩) (Or.inl rfl) v2
  have hX : Only (fun k => k = g ∨ vL.ownBlock = some k) w (w2.setCell ⟨g, 0, none⟩ v2) := (Only.of_below hb1).trans hX1
  have hXM : ∀ k, (k = g ∨ vL.ownBlock = some k) → M k := fun k hk => hk.elim (fun h => by rw [h]; exact hg) fun h => (hl k h).1
  have hsame : ∀ k, k < w.heap.size → vL.ownBlock ≠ some k → w2.heap[k]? = w.heap[k]? := fun k hk hne => by
    rw [q2.block k (by rw [World.size_alloc]; omega) (fun e => hne e.symm), Below.heap_alloc _ _ _ (by omega), hb1.block k hk]
  have hvg : ∀ k, v2.ownBlock = some k → k ≠ g := fun k hk => by
    rcases l2 with l2 | l2
    · rw [l2] at hk; exact (hl k hk).2.1
    · rw [l2, World.size_alloc] at hk; cases hk; omega
  obtain ⟨a5, c5, e5, k1, k2, k3, k4, k5, -⟩ := o1.open
  rw [hv1] at e5
  simp only [Value.slice.injEq, true_and] at e5
  obtain ⟨rfl, rfl⟩ := e5
  refine ⟨⟨⟨v2, vD, rows ++ [v1], fun k => E k ∨ (w.heap.size ≤ k ∧ k < w1.heap.size), ?_, ?_, ?_, ?_, Or.inl hg, ?_, ?_, ?_⟩, fun k hk => ?_⟩, hX.weak hXM⟩
  · have hR2 : Row g 33 [vL, vD] w2 := by
      unfold Row at hR ⊢
      rw [hsame g hgl (fun e => (hl g e).2.1 rfl)]
      exact hR
    exact hR2.set 0 v2
  · have e : (s.L ++ [ls]).length = s.L.length + 1 := by simp
    show World.ownsRow _ 0 _ 1 v2 (s.L ++ [ls]).length (rows ++ [v1])
    rw [e]
    exact ownsRow_upW hr2 fun k hk => Below.heap_setCell _ _ _ _ (hvg k hk)
  · exact own_only h3 hX fun k hk hx => hx.elim (hd k hk).2 fun h => (hl k h).2.2 hk
  · refine ⟨by simp [h4.1], fun j l hj => ?_⟩
    rcases Nat.lt_or_ge j s.L.length with hjl | hjl
    · rw [List.getElem?_append_left hjl] at hj
      obtain ⟨a, c, e1, e2, e3, e4, e6, e7⟩ := h4.2 j l hj
      exact ⟨a, c, by rw [List.getElem?_append_left (by rw [h4.1]; exact hjl)]; exact e1, e2.only hX fun x hx => (e7 x hx).elim Or.inl fun hE => Or.inr fun hh => hh.elim (he _ hE).2.1 (he _ hE).2.2.1, e3, e4, e6, fun x hx => (e7 x hx).elim Or.inl fun h => Or.inr (Or.inl h)⟩
    · have hjj : j = s.L.length := by
        have := (List.getElem?_eq_some_iff.1 hj).1
        simp at this; omega
      subst hjj
      rw [List.getElem?_append_right (Nat.le_refl _), Nat.sub_self, List.getElem?_cons_zero, Option.some.injEq] at hj
      subst hj
      refine ⟨_, _, by rw [List.getElem?_append_right (by rw [h4.1]; exact Nat.le_refl _), h4.1, Nat.sub_self, List.getElem?_cons_zero, hv1], k1.only hX1 fun x hx => Or.inr fun hh => ?_, k2, k3, k4, fun x hx => Or.inr (Or.inr ⟨(k5 x hx).1, (k5 x hx).2.2.2⟩)⟩
      have hge := (k5 x hx).1
      rcases hh with hh | hh
      · omega
      · have := hlt _ (hl _ hh).1; omega
  · intro k hk
    rcases l2 with l2 | l2
    · rw [l2] at hk
      exact ⟨Or.inl (hl k hk).1, (hl k hk).2⟩
    · have hk2 := (hr2.lt k hk).2
      rw [l2, World.size_alloc] at hk
      cases hk
      refine ⟨Or.inr ⟨by omega, by simp; omega⟩, by omega, fun e => ?_⟩
      have := hlt _ (hd _ e).1; omega
  · intro k hk
    exact ⟨Or.inl (hd k hk).1, (hd k hk).2⟩
  · intro k hk
    rcases hk with hk | hk
    · refine ⟨Or.inl (he k hk).1, (he k hk).2.1, fun e => ?_, (he k hk).2.2.2⟩
      rcases l2 with l2 | l2
      · rw [l2] at e; exact (he k hk).2.2.1 e
      · rw [l2, World.size_alloc] at e; cases e; have := hlt _ (he _ hk).1; omega
    · refine ⟨Or.inr ⟨hk.1, by simp; omega⟩, by omega, fun e => ?_, fun e => ?_⟩
      · rcases l2 with l2 | l2
        · rw [l2] at e; have := hlt _ (hl _ e).1; omega
        · rw [l2, World.size_alloc] at e; cases e; omega
      · have := hlt _ (hd _ e).1; omega
  · rcases hk with hk | hk
    · have := hlt k hk; simp; omega
    · exact hk.2

/-- .. and whether it was reversed -/
theorem mbook_done {b : Bool} {v2 : Value} {o : Obj} (hR : Row g 33 [vL, vD] w) (h2 : w.ownsRow 0 35 1 vL s.L.length rows) (h3 : w.ownsRow 0 4 1 vD s.done.length (s.done.map Value.bool)) (h4 : RowsL E rows s.L w)
    (hg : M g) (hl : ∀ k, vL.ownBlock = some k → M k ∧ k ≠ g ∧ vD.ownBlock ≠ some k) (hd : ∀ k, vD.ownBlock = some k → M k ∧ k ≠ g) (he : ∀ k, E k → M k ∧ k ≠ g ∧ vL.ownBlock ≠ some k ∧ vD.ownBlock ≠ some k) (hlt : ∀ k, M k → k < w.heap.size)
    (hb1 : Below w.heap.size w w1)
    (hr2 : w2.ownsRow 0 4 1 v2 (s.done.length + 1) (s.done.map Value.bool ++ [.bool b])) (q2 : (w1.alloc o).grownBy w2 vD.ownBlock) (l2 : v2.ownBlock = vD.ownBlock ∨ v2.ownBlock = some (w1.alloc o).heap.size) :
    MBook (PlusK M w (w2.setCell ⟨g, 1, none⟩ v2)) g ⟨s.L, s.done ++ [b]⟩ (w2.setCell ⟨g, 1, none⟩ v2) ∧ Only M w (w2.setCell ⟨g, 1, none⟩ v2) := by
  have hgl := hlt g hg
  have hsz1 : w.heap.size ≤ w1.heap.size := hb1.size
  have hsz2 : w1.heap.size + 1 ≤ w2.heap.size := by have := q2.size; rwa [World.size_alloc] at this
  have hX1 : Only (fun k => k = g ∨ vD.ownBlock = some k) w1 (w2.setCell ⟨g, 1, none⟩ v2) := (((Only.refl (fun k => k = g ∨ vD.ownBlock = some k) w1).alloc o).grown q2 (fun k hk => Or.inr hk)).setCell (p := ⟨g, 1, none⟩) (Or.inl rfl) v2
  have hX : Only (fun k => k = g ∨ vD.ownBlock = some k) w (w2.setCell ⟨g, 1, none⟩ v2) := (Only.of_below hb1).trans hX1
  have hXM : ∀ k, (k = g ∨ vD.ownBlock = some k) → M k := fun k hk => hk.elim (fun h => by rw [h]; exact hg) fun h => (hd k h).1
  have hsame : ∀ k, k < w.heap.size → vD.ownBlock ≠ some k → w2.heap[k]? = w.heap[k]? := fun k hk hne => by
    rw [q2.block k (by rw [World.size_alloc]; omega) (fun e => hne e.symm), Below.heap_alloc _ _ _ (by omega), hb1.block k hk]
  have hvg : ∀ k, v2.ownBlock = some k → k ≠ g := fun k hk => by
    rcases l2 with l2 | l2
    · rw [l2] at hk; exact (hd k hk).2
    · rw [l2, World.size_alloc] at hk; cases hk; omega
  refine ⟨⟨⟨vL, v2, rows, E, ?_, ?_, ?_, ?_, Or.inl hg, ?_, ?_, ?_⟩, fun k hk => ?_⟩, hX.weak hXM⟩
  · have hR2 : Row g 33 [vL, vD] w2 := by
      unfold Row at hR ⊢
      rw [hsame g hgl (fun e => (hd g e).2 rfl)]
      exact hR
    exact hR2.set 1 v2
  · exact own_only h2 hX fun k hk hx => hx.elim (hl k hk).2.1 fun h => (hl k hk).2.2 h
  · have e : (s.done ++ [b]).length = s.done.length + 1 := by simp
    have e2 : (s.done ++ [b]).map Value.bool = s.done.map Value.bool ++ [.bool b] := by simp
    show World.ownsRow _ 0 _ 1 v2 (s.done ++ [b]).length ((s.done ++ [b]).map Value.bool)
    rw [e, e2]
    exact ownsRow_upW hr2 fun k hk => Below.heap_setCell _ _ _ _ (hvg k hk)
  · exact h4.only hX fun k hk hx => hx.elim (he k hk).2.1 (he k hk).2.2.2
  · intro k hk
    refine ⟨Or.inl (hl k hk).1, (hl k hk).2.1, fun e => ?_⟩
    rcases l2 with l2 | l2
    · rw [l2] at e; exact (hl k hk).2.2 e
    · rw [l2, World.size_alloc] at e; cases e; have := hlt _ (hl _ hk).1; omega
  · intro k hk
    rcases l2 with l2 | l2
    · rw [l2] at hk
      exact ⟨Or.inl (hd k hk).1, (hd k hk).2⟩
    · have hk2 := (hr2.lt k hk).2
      rw [l2, World.size_alloc] at hk
      cases hk
      exact ⟨Or.inr ⟨by omega, by simp; omega⟩, by omega⟩
  · intro k hk
    refine ⟨Or.inl (he k hk).1, (he k hk).2.1, (he k hk).2.2.1, fun e => ?_⟩
    rcases l2 with l2 | l2
    · rw [l2] at e; exact (he k hk).2.2.2 e
    · rw [l2, World.size_alloc] at e; cases e; have := hlt _ (he _ hk).1; omega
  · rcases hk with hk | hk
    · have := hlt k hk; simp; omega
    · exact hk.2
end

/-- a mark is set -/
theorem mbook_mark {M : Nat → Prop} {g : Nat} {s : Bk} {w : World} {j q : Nat} {cD : Nat} (h : MBook M g s w) (hj : j < s.done.length) (hc : w.cell? ⟨g, 1, none⟩ = some (.slice (some ⟨q, 0, none⟩) s.done.length cD)) (b : Bool) :
    MBook M g ⟨s.L, s.done.set j b⟩ (w.setCell ⟨q, j, none⟩ (.bool b)) ∧ Only M w (w.setCell ⟨q, j, none⟩ (.bool b)) := by
  obtain ⟨⟨vL, vD, rows, E, h1, h2, h3, h4, hg, hl, hd, he⟩, h6⟩ := h
  have hvD : vD = .slice (some ⟨q, 0, none⟩) s.done.length cD := by
    have := h1.cell (j := 1) (by simp)
    rw [this] at hc
    exact Option.some.inj hc
  have hqB : vD.ownBlock = some q := by rw [hvD]; rfl
  have hX : Only (fun k => k = q) w (w.setCell ⟨q, j, none⟩ (.bool b)) := (Only.refl (fun k => k = q) w).setCell (p := ⟨q, j, none⟩) rfl _
  refine ⟨⟨⟨vL, vD, rows, E, h1.only hX (fun e => (hd q hqB).2 e.symm), own_only h2 hX (fun k hk e => (hl k hk).2.2 (by rw [e]; exact hqB)), ?_, h4.only hX (fun k hk e => (he k hk).2.2.2 (by rw [e]; exact hqB)), hg, hl, hd, he⟩, fun k hk => by simpa using h6 k hk⟩, hX.weak fun k e => by rw [e]; exact (hd q hqB).1⟩
  have h5 := World.ownsRow.stored (by rw [hvD] at h3; exact h3) j (.bool b)
  rw [hvD]
  show World.ownsRow _ 0 _ 1 _ (s.done.set j b).length ((s.done.set j b).map Value.bool)
  rw [List.length_set]
  have e : (s.done.set j b).map Value.bool = (s.done.map Value.bool).set j (.bool b) := by rw [List.map_set]
  rw [e]
  exact h5.1
end Go.Proofs.YtcdkgfjjgebcnaaDoor
