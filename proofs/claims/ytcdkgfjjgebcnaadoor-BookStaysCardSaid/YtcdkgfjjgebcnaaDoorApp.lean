/- append onto a slice of the call's own (or nil), whatever slice is appended: nil, empty or not; elements of one cell. -/
import Derived.WalkKit
import Derived.Maps.AppendAt
import Derived.Deep.AppendLies
import Derived.Deep.RegionLaw
import Derived.Laws.AppendOwnNone
import Derived.WalkSmall
namespace Go.Proofs.YtcdkgfjjgebcnaaDoor
open Go Go.RowKit
set_option linter.unusedVariables false

/-- a slice's elements, of one cell each -/
def Cells (w : World) (a : Option Addr) (len : Nat) (vs : List Value) : Prop :=
  vs.length = len ∧ (len = 0 ∨ ∃ b off, a = some ⟨b, off, none⟩ ∧ ∀ j, j < len → w.cell? ⟨b, off + j, none⟩ = some (vs.getD j undef))

/-- what is known of a slice's type -/
structure SliceT (P : Program) (t e : TypeId) (z : Value) (bytes : Nat) : Prop where
  ht : P.underlying t = some (.slice e)
  hi : (P.info? e).map (fun i => (i.zero, i.size, i.bytes)) = some (some z, 1, bytes)
  hz : z.cells.size = 1

theorem old_cell {B : Nat} {w w1 : World} (h : Below B w w1) {a : Addr} {v : Value} (hc : w.cell? a = some v) (hB : a.block < B) : w1.cell? a = some v := (h.cell hB).trans hc

theorem cell_lt {w : World} {a : Addr} {v : Value} (hc : w.cell? a = some v) : a.block < w.heap.size := by
  refine Nat.lt_of_not_le fun h => ?_
  have : w.heap[a.block]? = none := Array.getElem?_eq_none h
  simp [World.cell?, this] at hc

theorem Cells.below {w w' : World} {a : Option Addr} {len : Nat} {vs : List Value} {B : Nat} (h : Cells w a len vs) (hb : Below B w w') (ha : ∀ x, a = some x → len = 0 ∨ x.block < B) : Cells w' a len vs := by
  obtain ⟨h1, h2⟩ := h
  refine ⟨h1, ?_⟩
  rcases h2 with h2 | ⟨b, off, rfl, hc⟩
  · exact Or.inl h2
  · rcases ha _ rfl with h0 | h0
    · exact Or.inl h0
    · exact Or.inr ⟨b, off, rfl, fun j hj => old_cell hb (hc j hj) h0⟩

theorem Cells.news {w : World} {ad : Addr} {m : Nat} {news : List Value} (h : Cells w (some ad) m news) : ∀ j u, news[j]? = some u → w.cell? (ad.add j) = some u := by
  intro j u hj
  have hjl := (List.getElem?_eq_some_iff.1 hj).1
  rcases h.2 with h0 | ⟨b, off, he, hc⟩
  · rw [h.1, h0] at hjl; exact absurd hjl (Nat.not_lt_zero _)
  · cases he
    rw [Go.WideShapes.add_plain, hc j (by rw [← h.1]; exact hjl)]
    rw [List.getD, hj]; rfl

section
variable {P : Program}

theorem run_append_cells (w : World) (base : Nat) {t e : TypeId} {z : Value} {bytes : Nat} (T : SliceT P t e z bytes) (ty : TypeId)
    (v : Value) (n : Nat) (xs : List Value) (hown : w.ownsRow base e 1 v n xs) (ad : Option Addr) (m c : Nat) (news : List Value) (hc : ad = none → c = 0) (hn : Cells w ad m news) (h1 : ∀ u ∈ news, u.oneCell' = true)
    (h63 : n + m ≤ maxLen) (hbytes : (n + m) * bytes ≤ 140737488355328) (hbase : base ≤ w.heap.size) :
    ∃ v' w', (Builtin.append_ #[t, t] ty #[v, .slice ad m c]).run P w = .ok v' w' ∧ w'.ownsRow base e 1 v' (n + m) (xs ++ news) ∧ w.grownBy w' v.ownBlock ∧
      (v' = .slice none 0 0 ↔ v = .slice none 0 0 ∧ m = 0) ∧ (v'.ownBlock = v.ownBlock ∨ v'.ownBlock = some w.heap.size) := by
  obtain ⟨i, hi, a1, a2, a3⟩ := info_parts T.hi
  cases ad with
  | some ad =>
    exact run_append_own_at w base t ty e i z 1 bytes T.ht hi a1 a2 a3 T.hz (by decide) v n xs hown ad m c news (by rw [hn.1]; omega) hn.news h1 h63 hbytes hbase
  | none =>
    have hm : m = 0 := by
      rcases hn.2 with h | ⟨b, off, h, _⟩
      · exact h
      · cases h
    obtain rfl := hc rfl
    subst hm
    obtain rfl : news = [] := List.eq_nil_of_length_eq_zero hn.1
    refine ⟨v, w, run_append_owned_none w base t ty e i 1 T.ht hi v n xs hown, ?_, World.grownBy.refl _ _, ⟨fun h => ⟨h, rfl⟩, fun h => h.1⟩, Or.inl rfl⟩
    rw [List.append_nil, Nat.add_zero]; exact hown

/-- in a list of operations -/
theorem wpList_append_cells {w : World} {ops : Array Oper} {rest : List Oper} {o : Oper} {a : Act} {Q : Exit → Act → World → Prop} (hgd : o.guard = none) (s x : Operand) (t : TypeId)
    (ho : o.op = .call { callee := .builtin .append, args := #[s, x], argTypes := #[t, t] })
    (base : Nat) {e : TypeId} {z : Value} {bytes : Nat} (T : SliceT P t e z bytes)
    (v : Value) (n : Nat) (xs : List Value) (hs : a.eval s = v) (hown : w.ownsRow base e 1 v n xs)
    (ad : Option Addr) (m c : Nat) (news : List Value) (hx : a.eval x = .slice ad m c) (hc : ad = none → c = 0) (hn : Cells w ad m news) (h1 : ∀ u ∈ news, u.oneCell' = true)
    (h63 : n + m ≤ maxLen) (hbytes : (n + m) * bytes ≤ 140737488355328) (hbase : base ≤ w.heap.size)
    (h : ∀ v' w', w'.ownsRow base e 1 v' (n + m) (xs ++ news) → w.grownBy w' v.ownBlock → (v' = .slice none 0 0 ↔ v = .slice none 0 0 ∧ m = 0) → (v'.ownBlock = v.ownBlock ∨ v'.ownBlock = some w.heap.size) → wpList P ops Q rest (a.put o.dst v') w') :
    wpList P ops Q (o :: rest) a w :=
  wpList_plain hgd fun _ hK => by
    obtain ⟨v', w', hr, h2, h3, h4, h5⟩ := run_append_cells w base T o.type v n xs hown ad m c news hc hn h1 h63 hbytes hbase
    unfold Oper.wp execOp
    simp only [ho, resolve, invoke, builtin, Sem.run_bind, Sem.run_pure, Result.andThen_ok, List.map_toArray, List.map_cons, List.map_nil, hs, hx, hr]
    exact hK _ _ (h v' w' h2 h3 h4 h5)

/-- at a step of a region that draws its order -/
theorem step_append_cells {w : World} {ops : Array Oper} {o : Oper} {a : Act} {K : Act → World → Prop} {Q : Exit → Act → World → Prop} {E : Prop} (hgd : o.guard = none) (s x : Operand) (t : TypeId)
    (ho : o.op = .call { callee := .builtin .append, args := #[s, x], argTypes := #[t, t] })
    (base : Nat) {e : TypeId} {z : Value} {bytes : Nat} (T : SliceT P t e z bytes)
    (v : Value) (n : Nat) (xs : List Value) (hs : a.eval s = v) (hown : w.ownsRow base e 1 v n xs)
    (ad : Option Addr) (m c : Nat) (news : List Value) (hx : a.eval x = .slice ad m c) (hc : ad = none → c = 0) (hn : Cells w ad m news) (h1 : ∀ u ∈ news, u.oneCell' = true)
    (h63 : n + m ≤ maxLen) (hbytes : (n + m) * bytes ≤ 140737488355328) (hbase : base ≤ w.heap.size)
    (h : ∀ v' w', w'.ownsRow base e 1 v' (n + m) (xs ++ news) → w.grownBy w' v.ownBlock → (v' = .slice none 0 0 ↔ v = .slice none 0 0 ∧ m = 0) → (v'.ownBlock = v.ownBlock ∨ v'.ownBlock = some w.heap.size) → K (a.put o.dst v') w') :
    if Region.wanted o (yielded ops a.tmps) = true then Oper.wp P o a w K Q else E := by
  have hw : Region.wanted o (yielded ops a.tmps) = true := by simp [Region.wanted, hgd]
  rw [if_pos hw]
  obtain ⟨v', w', hr, h2, h3, h4, h5⟩ := run_append_cells w base T o.type v n xs hown ad m c news hc hn h1 h63 hbytes hbase
  unfold Oper.wp execOp
  simp only [ho, resolve, invoke, builtin, Sem.run_bind, Sem.run_pure, Result.andThen_ok, List.map_toArray, List.map_cons, List.map_nil, hs, hx, hr]
  exact h v' w' h2 h3 h4 h5
end

/-- an own row, read as a slice's elements -/
theorem ownsRow_cells {w : World} {base : Nat} {e : TypeId} {g n cap : Nat} {xs : List Value} (h : w.ownsRow base e 1 (.slice (some ⟨g, 0, none⟩) n cap) n xs) : Cells w (some ⟨g, 0, none⟩) n xs := by
  refine ⟨by have := h.1; omega, ?_⟩
  by_cases h0 : n = 0
  · exact Or.inl h0
  · refine Or.inr ⟨g, 0, rfl, fun j hj => ?_⟩
    have hl : j < xs.length := by have := h.1; omega
    rw [Nat.zero_add, h.cellAt j (by omega), List.getElem?_eq_getElem hl, List.getD, List.getElem?_eq_getElem hl]
    rfl
end Go.Proofs.YtcdkgfjjgebcnaaDoor
