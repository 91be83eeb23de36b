/- Rows of lines of the call's own: appended to, told. -/
import Derived.Test.YtcdkgfjjgebcnaaDoorBookMem
import Derived.Deep.Heap
import Derived.Deep.RegionLaw
namespace Go.Proofs.YtcdkgfjjgebcnaaDoor
open Go Go.RowKit
set_option linter.unusedVariables false

/-- lines as cells, one behind the other -/
def flatL : List Ln → List Value
  | [] => []
  | x :: r => .int .i64 x.k :: .int .i64 x.o :: .int .i64 x.v :: flatL r
theorem flatL_len (l : List Ln) : (flatL l).length = l.length * 3 := by
  induction l with
  | nil => rfl
  | cons a l ih => simp only [flatL, List.length_cons, ih]; omega
theorem flatL_append (l r : List Ln) : flatL (l ++ r) = flatL l ++ flatL r := by
  induction l with
  | nil => rfl
  | cons a l ih => simp only [List.cons_append, flatL, ih]
theorem flatL_one (l : List Ln) : ∀ u ∈ flatL l, u.oneCell' = true := by
  induction l with
  | nil => intro u hu; cases hu
  | cons a l ih =>
    intro u hu
    simp only [flatL, List.mem_cons] at hu
    rcases hu with rfl | rfl | rfl | hu
    · rfl
    · rfl
    · rfl
    · exact ih u hu
theorem flatL_get {l : List Ln} {j : Nat} {x : Ln} (h : l[j]? = some x) : (flatL l)[j * 3]? = some (.int .i64 x.k) ∧ (flatL l)[j * 3 + 1]? = some (.int .i64 x.o) ∧ (flatL l)[j * 3 + 2]? = some (.int .i64 x.v) := by
  induction l generalizing j with
  | nil => simp at h
  | cons a l ih =>
    cases j with
    | zero => simp only [List.getElem?_cons_zero, Option.some.injEq] at h; subst h; exact ⟨rfl, rfl, rfl⟩
    | succ j =>
      simp only [List.getElem?_cons_succ] at h
      obtain ⟨h1, h2, h3⟩ := ih h
      have e : (j + 1) * 3 = j * 3 + 1 + 1 + 1 := by omega
      rw [e]
      refine ⟨?_, ?_, ?_⟩
      · simpa [flatL] using h1
      · simpa [flatL] using h2
      · simpa [flatL] using h3
theorem flatL_at {l : List Ln} {i : Nat} {u : Value} (h : (flatL l)[i]? = some u) : ∃ x, l[i / 3]? = some x ∧ ((i % 3 = 0 ∧ u = .int .i64 x.k) ∨ (i % 3 = 1 ∧ u = .int .i64 x.o) ∨ (i % 3 = 2 ∧ u = .int .i64 x.v)) := by
  have hi : i < l.length * 3 := by
    have := (List.getElem?_eq_some_iff.1 h).1
    rwa [flatL_len] at this
  have hj : i / 3 < l.length := by omega
  obtain ⟨h1, h2, h3⟩ := flatL_get (List.getElem?_eq_getElem hj)
  refine ⟨_, List.getElem?_eq_getElem hj, ?_⟩
  have h5 : i % 3 = 0 ∨ i % 3 = 1 ∨ i % 3 = 2 := by omega
  rcases h5 with h5 | h5 | h5
  · rw [show i / 3 * 3 = i by omega, h] at h1; exact Or.inl ⟨h5, Option.some.inj h1⟩
  · rw [show i / 3 * 3 + 1 = i by omega, h] at h2; exact Or.inr (Or.inl ⟨h5, Option.some.inj h2⟩)
  · rw [show i / 3 * 3 + 2 = i by omega, h] at h3; exact Or.inr (Or.inr ⟨h5, Option.some.inj h3⟩)

theorem info_ln : (Tryd.prog.info? 56).map (fun i => (i.zero, i.size, i.bytes)) = some (some (.agg #[.int .i64 0, .int .i64 0, .int .i64 0]), 3, 24) := by kernel_rfl

theorem LinesAt.news {w : World} {ad : Addr} {m : Nat} {ls : List Ln} (h : LinesAt w (some ad) m ls) : ∀ i u, (flatL ls)[i]? = some u → w.cell? (ad.add i) = some u := by
  intro i u hu
  obtain ⟨x, hx, hc⟩ := flatL_at hu
  have hl := (List.getElem?_eq_some_iff.1 hx).1
  rcases h.2 with h0 | ⟨b, off, e, hcc⟩
  · have := h.1; omega
  · cases e
    obtain ⟨h1, h2, h3⟩ := hcc _ x hx
    rw [Go.WideShapes.add_plain]
    rcases hc with ⟨h5, rfl⟩ | ⟨h5, rfl⟩ | ⟨h5, rfl⟩
    · rw [show off + i = off + i / 3 * 3 by omega]; exact h1
    · rw [show off + i = off + i / 3 * 3 + 1 by omega]; exact h2
    · rw [show off + i = off + i / 3 * 3 + 2 by omega]; exact h3

/-- a row of lines of the call's own -/
def OwnsL (B : Nat) (v : Value) (ls : List Ln) (w : World) : Prop := w.ownsRow B 56 3 v ls.length (flatL ls)
theorem ownsL_nil (w : World) (B : Nat) : OwnsL B (.slice none 0 0) [] w := World.ownsRow_nil _ _ _ _
theorem ownsL_up {w w' : World} {B : Nat} {v : Value} {ls : List Ln} (h : OwnsL B v ls w) (hb : Below w.heap.size w w') : OwnsL B v ls w' := by
  obtain ⟨h1, h2⟩ := h
  refine ⟨h1, ?_⟩
  rcases h2 with h2 | ⟨g, cap, cur, hv, hg, hh, r⟩
  · exact Or.inl h2
  · have hlt : g < w.heap.size := by
      rcases Nat.lt_or_ge g w.heap.size with h | h
      · exact h
      · rw [Array.getElem?_eq_none h] at hh; cases hh
    exact Or.inr ⟨g, cap, cur, hv, hg, by rw [hb.block g hlt]; exact hh, r⟩
theorem OwnsL.mono {w : World} {B B' : Nat} {v : Value} {ls : List Ln} (h : OwnsL B v ls w) (hb : B' ≤ B) : OwnsL B' v ls w := by
  obtain ⟨h1, h2⟩ := h
  refine ⟨h1, ?_⟩
  rcases h2 with h2 | ⟨g, cap, cur, hv, hg, r⟩
  · exact Or.inl h2
  · exact Or.inr ⟨g, cap, cur, hv, Nat.le_trans hb hg, r⟩
/-- what it looks like -/
theorem OwnsL.open {w : World} {B : Nat} {v : Value} {ls : List Ln} (h : OwnsL B v ls w) :
    ∃ a c, v = .slice a ls.length c ∧ LinesAt w a ls.length ls ∧ ls.length ≤ c ∧ c ≤ maxLen ∧ (a = none → c = 0) ∧ (∀ x, a = some x → B ≤ x.block ∧ x.off = 0 ∧ x.spot = none ∧ x.block < w.heap.size) ∧ (∀ x i, a = some x → w.frozen? ⟨x.block, i, none⟩ = false) := by
  rcases h.2 with ⟨rfl, h0⟩ | ⟨g, cap, cur, rfl, hB, hh, hc, hm, hs, ht⟩
  · have e : ls = [] := List.eq_nil_of_length_eq_zero h0
    subst e
    exact ⟨none, 0, rfl, linesAt_nil _ _, Nat.le_refl _, by simp [maxLen], fun _ => rfl, (fun x hx => by cases hx), (fun x i hx => by cases hx)⟩
  · refine ⟨some ⟨g, 0, none⟩, cap, rfl, ⟨rfl, ?_⟩, hc, hm, (fun h => by cases h), fun x hx => ?_, fun x i hx => ?_⟩
    · refine Or.inr ⟨g, 0, rfl, fun j x hj => ?_⟩
      obtain ⟨h1, h2, h3⟩ := flatL_get hj
      have hl := (List.getElem?_eq_some_iff.1 hj).1
      rw [Nat.zero_add]
      exact ⟨by rw [h.cellAt (j * 3) (by omega)]; exact h1, by rw [h.cellAt (j * 3 + 1) (by omega)]; exact h2, by rw [h.cellAt (j * 3 + 2) (by omega)]; exact h3⟩
    · cases hx
      refine ⟨hB, rfl, rfl, ?_⟩
      rcases Nat.lt_or_ge g w.heap.size with h' | h'
      · exact h'
      · rw [Array.getElem?_eq_none h'] at hh; cases hh
    · cases hx
      exact h.frozenAt i
theorem OwnsL.told {w : World} {B : Nat} {v : Value} {ls : List Ln} (h : OwnsL B v ls w) : OwnLn B v ls w := by
  obtain ⟨a, c, rfl, h1, h2, h3, -, h4, h5⟩ := h.open
  refine ⟨a, c, rfl, ⟨h2, by unfold maxLen at h3; omega⟩, h1, fun x hx => Or.inr ⟨(h4 x hx).1, fun i _ => h5 x _ hx⟩⟩

theorem run_append_ln (w : World) (base : Nat) (ty : TypeId) (v : Value) (xs : List Ln) (hown : OwnsL base v xs w) (ad : Option Addr) (m c : Nat) (ls : List Ln) (hc : ad = none → c = 0) (hn : LinesAt w ad m ls)
    (h63 : xs.length + m ≤ 1000000000) (hbase : base ≤ w.heap.size) :
    ∃ v' w', (Builtin.append_ #[35, 35] ty #[v, .slice ad m c]).run Tryd.prog w = .ok v' w' ∧ OwnsL base v' (xs ++ ls) w' ∧ w.grownBy w' v.ownBlock ∧
      (v' = .slice none 0 0 ↔ v = .slice none 0 0 ∧ m = 0) ∧ (v'.ownBlock = v.ownBlock ∨ v'.ownBlock = some w.heap.size) := by
  obtain ⟨i, hi, hz⟩ := Option.map_eq_some_iff.1 info_ln
  simp only [Prod.mk.injEq] at hz
  obtain ⟨a1, a2, a3⟩ := hz
  have hml : xs.length + m ≤ maxLen := by simp only [maxLen]; omega
  cases ad with
  | some ad =>
    obtain ⟨v', w', h1, h2, h3, h4, h5⟩ := run_append_own_at w base 35 ty 56 i (.agg #[.int .i64 0, .int .i64 0, .int .i64 0]) 3 24 Tryd.underlying35 hi a1 a2 a3 rfl (by decide) v xs.length (flatL xs) hown ad m c (flatL ls) (by rw [flatL_len, hn.1]) hn.news (flatL_one ls) hml (by omega) hbase
    refine ⟨v', w', h1, ?_, h3, h4, h5⟩
    show World.ownsRow w' base 56 3 v' (xs ++ ls).length (flatL (xs ++ ls))
    rw [flatL_append, List.length_append, hn.1]
    exact h2
  | none =>
    have hm : m = 0 := by
      rcases hn.2 with h | ⟨b, off, h, _⟩
      · exact h
      · cases h
    obtain rfl := hc rfl
    subst hm
    obtain rfl : ls = [] := List.eq_nil_of_length_eq_zero hn.1
    refine ⟨v, w, run_append_owned_none w base 35 ty 56 i 3 Tryd.underlying35 hi v xs.length (flatL xs) hown, by rw [List.append_nil]; exact hown, World.grownBy.refl _ _, ⟨fun h => ⟨h, rfl⟩, fun h => h.1⟩, Or.inl rfl⟩

/-- in a list of operations -/
theorem wpList_append_ln {w : World} {ops : Array Oper} {rest : List Oper} {o : Oper} {a : Act} {Q : Exit → Act → World → Prop} (hgd : o.guard = none) (s x : Operand)
    (ho : o.op = .call { callee := .builtin .append, args := #[s, x], argTypes := #[35, 35] })
    (base : Nat) (v : Value) (xs : List Ln) (hs : a.eval s = v) (hown : OwnsL base v xs w)
    (ad : Option Addr) (m c : Nat) (ls : List Ln) (hx : a.eval x = .slice ad m c) (hc : ad = none → c = 0) (hn : LinesAt w ad m ls)
    (h63 : xs.length + m ≤ 1000000000) (hbase : base ≤ w.heap.size)
    (h : ∀ v' w', OwnsL base v' (xs ++ ls) w' → w.grownBy w' v.ownBlock → (v' = .slice none 0 0 ↔ v = .slice none 0 0 ∧ m = 0) → (v'.ownBlock = v.ownBlock ∨ v'.ownBlock = some w.heap.size) → wpList Tryd.prog ops Q rest (a.put o.dst v') w') :
    wpList Tryd.prog ops Q (o :: rest) a w :=
  wpList_plain hgd fun _ hK => by
    obtain ⟨v', w', hr, h2, h3, h4, h5⟩ := run_append_ln w base o.type v xs hown ad m c ls hc hn h63 hbase
    unfold Oper.wp execOp
    simp only [ho, resolve, invoke, builtin, Sem.run_bind, Sem.run_pure, Result.andThen_ok, List.map_toArray, List.map_cons, List.map_nil, hs, hx, hr]
    exact hK _ _ (h v' w' h2 h3 h4 h5)
/-- at a step of a region that draws its order -/
theorem step_append_ln {w : World} {ops : Array Oper} {o : Oper} {a : Act} {K : Act → World → Prop} {Q : Exit → Act → World → Prop} {E : Prop} (hgd : o.guard = none) (s x : Operand)
    (ho : o.op = .call { callee := .builtin .append, args := #[s, x], argTypes := #[35, 35] })
    (base : Nat) (v : Value) (xs : List Ln) (hs : a.eval s = v) (hown : OwnsL base v xs w)
    (ad : Option Addr) (m c : Nat) (ls : List Ln) (hx : a.eval x = .slice ad m c) (hc : ad = none → c = 0) (hn : LinesAt w ad m ls)
    (h63 : xs.length + m ≤ 1000000000) (hbase : base ≤ w.heap.size)
    (h : ∀ v' w', OwnsL base v' (xs ++ ls) w' → w.grownBy w' v.ownBlock → (v' = .slice none 0 0 ↔ v = .slice none 0 0 ∧ m = 0) → (v'.ownBlock = v.ownBlock ∨ v'.ownBlock = some w.heap.size) → K (a.put o.dst v') w') :
    if Region.wanted o (yielded ops a.tmps) = true then Oper.wp Tryd.prog o a w K Q else E := by
  have hw : Region.wanted o (yielded ops a.tmps) = true := by simp [Region.wanted, hgd]
  rw [if_pos hw]
  obtain ⟨v', w', hr, h2, h3, h4, h5⟩ := run_append_ln w base o.type v xs hown ad m c ls hc hn h63 hbase
  unfold Oper.wp execOp
  simp only [ho, resolve, invoke, builtin, Sem.run_bind, Sem.run_pure, Result.andThen_ok, List.map_toArray, List.map_cons, List.map_nil, hs, hx, hr]
  exact h v' w' h2 h3 h4 h5
theorem OwnsL.blk {w : World} {B : Nat} {v : Value} {ls : List Ln} (h : OwnsL B v ls w) : ∀ k, v.ownBlock = some k → B ≤ k := fun k hk => (World.ownsRow.lt h k hk).1
end Go.Proofs.YtcdkgfjjgebcnaaDoor
