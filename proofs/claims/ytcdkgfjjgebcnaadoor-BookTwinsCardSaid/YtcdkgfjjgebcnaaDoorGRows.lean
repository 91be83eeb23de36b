/- Rows of structs of k cells, whatever struct: in memory, of the call's own, appended to. -/
import Derived.Test.YtcdkgfjjgebcnaaDoorOnly
import Derived.Test.YtcdkgfjjgebcnaaDoorErr
import Derived.Deep.Heap
import Derived.Deep.RegionLaw
namespace Go.Proofs.YtcdkgfjjgebcnaaDoor
open Go Go.RowKit
set_option linter.unusedVariables false

/-- a struct's type: its number, its slice's, its cells -/
structure GR (α : Type) where
  e : TypeId
  sT : TypeId
  k : Nat
  bytes : Nat
  z : Value
  enc : α → List Value
  hk : ∀ x, (enc x).length = k
  h1 : ∀ x, ∀ v ∈ enc x, v.oneCell' = true
  hi : (Tryd.prog.info? e).map (fun i => (i.zero, i.size, i.bytes)) = some (some z, k, bytes)
  hz : z.cells.size = k
  h0 : 0 < k
  hT : Tryd.prog.underlying sT = some (.slice e)
  hb : bytes ≤ 1000

variable {α : Type} (G : GR α)

/-- structs as cells, one behind the other -/
def flatG : List α → List Value
  | [] => []
  | x :: r => G.enc x ++ flatG r
theorem flatG_len (l : List α) : (flatG G l).length = l.length * G.k := by
  induction l with
  | nil => simp [flatG]
  | cons a l ih => simp only [flatG, List.length_cons, List.length_append, ih, G.hk, Nat.add_mul]; omega
theorem flatG_append (l r : List α) : flatG G (l ++ r) = flatG G l ++ flatG G r := by
  induction l with
  | nil => rfl
  | cons a l ih => simp only [List.cons_append, flatG, ih, List.append_assoc]
theorem flatG_one (l : List α) : ∀ u ∈ flatG G l, u.oneCell' = true := by
  induction l with
  | nil => intro u hu; cases hu
  | cons a l ih =>
    intro u hu
    simp only [flatG, List.mem_append] at hu
    exact hu.elim (G.h1 a u) (ih u)
theorem flatG_get {l : List α} {j : Nat} {x : α} (h : l[j]? = some x) {i : Nat} (hi : i < G.k) : (flatG G l)[j * G.k + i]? = (G.enc x)[i]? := by
  induction l generalizing j with
  | nil => simp at h
  | cons a l ih =>
    cases j with
    | zero =>
      simp only [List.getElem?_cons_zero, Option.some.injEq] at h; subst h
      rw [Nat.zero_mul, Nat.zero_add]
      simp only [flatG]
      rw [List.getElem?_append_left (by rw [G.hk]; exact hi)]
    | succ j =>
      simp only [List.getElem?_cons_succ] at h
      have e : (j + 1) * G.k + i = G.k + (j * G.k + i) := by rw [Nat.add_mul]; omega
      simp only [flatG]
      rw [List.getElem?_append_right (by rw [G.hk]; omega), G.hk, show (j + 1) * G.k + i - G.k = j * G.k + i by omega]
      exact ih h
theorem flatG_at {l : List α} {i : Nat} {u : Value} (h : (flatG G l)[i]? = some u) : ∃ x, l[i / G.k]? = some x ∧ (G.enc x)[i % G.k]? = some u := by
  have hk := G.h0
  have hi : i < l.length * G.k := by
    have := (List.getElem?_eq_some_iff.1 h).1
    rwa [flatG_len] at this
  have hj : i / G.k < l.length := (Nat.div_lt_iff_lt_mul hk).2 hi
  refine ⟨_, List.getElem?_eq_getElem hj, ?_⟩
  have := flatG_get G (List.getElem?_eq_getElem hj) (i := i % G.k) (Nat.mod_lt _ hk)
  rw [Nat.mul_comm, Nat.div_add_mod, h] at this
  exact this.symm

/-- a row of structs -/
def RowsAt (w : World) (a : Option Addr) (n : Nat) (ls : List α) : Prop :=
  ls.length = n ∧ (n = 0 ∨ ∃ b off, a = some ⟨b, off, none⟩ ∧ ∀ (j : Nat) (x : α), ls[j]? = some x → ∀ (i : Nat) (v : Value), (G.enc x)[i]? = some v → w.cell? ⟨b, off + j * G.k + i, none⟩ = some v)

variable {G}

theorem rowsAt_nil (w : World) (a : Option Addr) : RowsAt G w a 0 [] := ⟨rfl, Or.inl rfl⟩
theorem RowsAt.lt {w : World} {a : Option Addr} {n : Nat} {ls : List α} (h : RowsAt G w a n ls) : ∀ x, a = some x → n = 0 ∨ x.block < w.heap.size := fun x hx => by
  rcases h.2 with h0 | ⟨b, off, e, hc⟩
  · exact Or.inl h0
  · by_cases h0 : n = 0
    · exact Or.inl h0
    · rw [hx] at e
      cases e
      have hl : 0 < ls.length := by rw [h.1]; omega
      have hk := G.h0
      have := hc 0 _ (List.getElem?_eq_getElem hl) 0 _ (List.getElem?_eq_getElem (by rw [G.hk]; exact hk))
      rw [Nat.zero_mul] at this
      exact Or.inr (cell_lt this)
theorem RowsAt.of_block {w w' : World} {a : Option Addr} {n : Nat} {ls : List α} (h : RowsAt G w a n ls) (hb : ∀ x, a = some x → n = 0 ∨ w'.heap[x.block]? = w.heap[x.block]?) : RowsAt G w' a n ls := by
  refine ⟨h.1, ?_⟩
  rcases h.2 with h0 | ⟨b, off, e, hc⟩
  · exact Or.inl h0
  · rcases hb _ e with h0 | hb
    · exact Or.inl h0
    · exact Or.inr ⟨b, off, e, fun j x hj i v hv => (World.cell?_of_block (a := ⟨b, off + j * G.k + i, none⟩) hb).trans (hc j x hj i v hv)⟩
theorem RowsAt.up {w w' : World} {a : Option Addr} {n : Nat} {ls : List α} (h : RowsAt G w a n ls) (hb : Below w.heap.size w w') : RowsAt G w' a n ls :=
  h.of_block fun x hx => (h.lt x hx).elim Or.inl fun hl => Or.inr (hb.block _ hl)
theorem RowsAt.only {X : Nat → Prop} {w w' : World} {a : Option Addr} {n : Nat} {ls : List α} (h : RowsAt G w a n ls) (ho : Only X w w') (hX : ∀ x, a = some x → n = 0 ∨ ¬ X x.block) : RowsAt G w' a n ls :=
  h.of_block fun x hx => (h.lt x hx).elim Or.inl fun hl => (hX x hx).elim Or.inl fun hx' => Or.inr (ho.block _ hl hx')
theorem RowsAt.get {w : World} {a : Option Addr} {n : Nat} {ls : List α} (h : RowsAt G w a n ls) {j : Nat} (hj : j < n) :
    ∃ b off x, a = some ⟨b, off, none⟩ ∧ ls[j]? = some x ∧ x ∈ ls ∧ ∀ (i : Nat) (v : Value), (G.enc x)[i]? = some v → w.cell? ⟨b, off + j * G.k + i, none⟩ = some v := by
  have hl : j < ls.length := by rw [h.1]; exact hj
  rcases h.2 with h0 | ⟨b, off, e, hc⟩
  · omega
  · exact ⟨b, off, ls[j], e, List.getElem?_eq_getElem hl, List.getElem_mem hl, hc j _ (List.getElem?_eq_getElem hl)⟩
theorem RowsAt.news {w : World} {ad : Addr} {m : Nat} {ls : List α} (h : RowsAt G w (some ad) m ls) : ∀ i u, (flatG G ls)[i]? = some u → w.cell? (ad.add i) = some u := by
  intro i u hu
  obtain ⟨x, hx, hc⟩ := flatG_at G hu
  have hl := (List.getElem?_eq_some_iff.1 hx).1
  rcases h.2 with h0 | ⟨b, off, e, hcc⟩
  · have := h.1; rw [h0] at this; rw [this] at hl; exact absurd hl (Nat.not_lt_zero _)
  · cases e
    have := hcc _ x hx _ _ hc
    rw [Nat.add_assoc, Nat.mul_comm, Nat.div_add_mod] at this
    rw [Go.WideShapes.add_plain]
    exact this
/-- one struct that lies alone -/
theorem RowsAt.one {w : World} {b off : Nat} {x : α} (h : ∀ (i : Nat) (v : Value), (G.enc x)[i]? = some v → w.cell? ⟨b, off + i, none⟩ = some v) : RowsAt G w (some ⟨b, off, none⟩) 1 [x] := by
  refine ⟨rfl, Or.inr ⟨b, off, rfl, fun j y hj i v hv => ?_⟩⟩
  cases j with
  | zero =>
    simp only [List.getElem?_cons_zero, Option.some.injEq] at hj
    subst hj
    rw [Nat.zero_mul, Nat.add_zero]
    exact h i v hv
  | succ j => simp at hj

variable (G)
/-- a row of structs of the call's own -/
def OwnsG (B : Nat) (v : Value) (ls : List α) (w : World) : Prop := w.ownsRow B G.e G.k v ls.length (flatG G ls)
variable {G}
theorem ownsG_nil (w : World) (B : Nat) : OwnsG G B (.slice none 0 0) [] w := World.ownsRow_nil _ _ _ _
theorem OwnsG.up {w w' : World} {B : Nat} {v : Value} {ls : List α} (h : OwnsG G B v ls w) (hb : Below w.heap.size w w') : OwnsG G B v ls w' := by
  obtain ⟨h1, h2⟩ := h
  refine ⟨h1, ?_⟩
  rcases h2 with h2 | ⟨g, cap, cur, hv, hg, hh, r⟩
  · exact Or.inl h2
  · have hlt : g < w.heap.size := by
      rcases Nat.lt_or_ge g w.heap.size with h | h
      · exact h
      · rw [Array.getElem?_eq_none h] at hh; cases hh
    exact Or.inr ⟨g, cap, cur, hv, hg, by rw [hb.block g hlt]; exact hh, r⟩
theorem OwnsG.mono {w : World} {B B' : Nat} {v : Value} {ls : List α} (h : OwnsG G B v ls w) (hb : B' ≤ B) : OwnsG G B' v ls w := by
  obtain ⟨h1, h2⟩ := h
  refine ⟨h1, ?_⟩
  rcases h2 with h2 | ⟨g, cap, cur, hv, hg, r⟩
  · exact Or.inl h2
  · exact Or.inr ⟨g, cap, cur, hv, Nat.le_trans hb hg, r⟩
/-- what it looks like -/
theorem OwnsG.open {w : World} {B : Nat} {v : Value} {ls : List α} (h : OwnsG G B v ls w) :
    ∃ a c, v = .slice a ls.length c ∧ RowsAt G w a ls.length ls ∧ ls.length ≤ c ∧ c ≤ maxLen ∧ (a = none → c = 0) ∧ (∀ x, a = some x → B ≤ x.block ∧ x.off = 0 ∧ x.spot = none ∧ x.block < w.heap.size) ∧ (∀ x i, a = some x → w.frozen? ⟨x.block, i, none⟩ = false) := by
  rcases h.2 with ⟨rfl, h0⟩ | ⟨g, cap, cur, rfl, hB, hh, hc, hm, hs, ht⟩
  · have e : ls = [] := List.eq_nil_of_length_eq_zero h0
    subst e
    exact ⟨none, 0, rfl, rowsAt_nil _ _, Nat.le_refl _, by simp [maxLen], fun _ => rfl, (fun x hx => by cases hx), (fun x i hx => by cases hx)⟩
  · refine ⟨some ⟨g, 0, none⟩, cap, rfl, ⟨rfl, ?_⟩, hc, hm, (fun h => by cases h), fun x hx => ?_, fun x i hx => ?_⟩
    · refine Or.inr ⟨g, 0, rfl, fun j x hj i v hv => ?_⟩
      have hl := (List.getElem?_eq_some_iff.1 hj).1
      have hi : i < G.k := by
        have := (List.getElem?_eq_some_iff.1 hv).1
        rwa [G.hk] at this
      have hlt : j * G.k + i < ls.length * G.k := by
        have h2 : (j + 1) * G.k ≤ ls.length * G.k := Nat.mul_le_mul_right _ hl
        rw [Nat.add_mul] at h2
        omega
      rw [Nat.zero_add, h.cellAt (j * G.k + i) (by simpa using hlt), flatG_get G hj hi]
      exact hv
    · cases hx
      refine ⟨hB, rfl, rfl, ?_⟩
      rcases Nat.lt_or_ge g w.heap.size with h' | h'
      · exact h'
      · rw [Array.getElem?_eq_none h'] at hh; cases hh
    · cases hx
      exact h.frozenAt i

variable (G)
/-- a row of structs that was told: new memory, that may be written -/
def ToldG (base : Nat) (v : Value) (ls : List α) (w : World) : Prop :=
  ∃ a c, v = .slice a ls.length c ∧ (ls.length ≤ c ∧ (a = none → c = 0)) ∧ RowsAt G w a ls.length ls ∧ ∀ x, a = some x → ls.length = 0 ∨ (base ≤ x.block ∧ ∀ i, i < ls.length * G.k → w.frozen? ⟨x.block, x.off + i, none⟩ = false)
variable {G}
theorem OwnsG.told {w : World} {B : Nat} {v : Value} {ls : List α} (h : OwnsG G B v ls w) : ToldG G B v ls w := by
  obtain ⟨a, c, rfl, h1, h2, h3, h6, h4, h5⟩ := h.open
  exact ⟨a, c, rfl, ⟨h2, h6⟩, h1, fun x hx => Or.inr ⟨(h4 x hx).1, fun i _ => h5 x _ hx⟩⟩
theorem ToldG.up {base : Nat} {v : Value} {ls : List α} {w w' : World} (h : ToldG G base v ls w) (hb : Below w.heap.size w w') : ToldG G base v ls w' := by
  obtain ⟨a, c, h1, h2, h3, h4⟩ := h
  refine ⟨a, c, h1, h2, h3.up hb, fun x hx => ?_⟩
  rcases h4 x hx with h5 | ⟨h5, h6⟩
  · exact Or.inl h5
  · rcases h3.lt x hx with h7 | h7
    · exact Or.inl h7
    · exact Or.inr ⟨h5, fun i hi => by rw [hb.frozen (p := ⟨x.block, x.off + i, none⟩) h7]; exact h6 i hi⟩

theorem run_append_g (w : World) (base : Nat) (ty : TypeId) (v : Value) (xs : List α) (hown : OwnsG G base v xs w) (ad : Option Addr) (m c : Nat) (ls : List α) (hc : ad = none → c = 0) (hn : RowsAt G w ad m ls)
    (h63 : xs.length + m ≤ 1000000000) (hbase : base ≤ w.heap.size) :
    ∃ v' w', (Builtin.append_ #[G.sT, G.sT] ty #[v, .slice ad m c]).run Tryd.prog w = .ok v' w' ∧ OwnsG G base v' (xs ++ ls) w' ∧ w.grownBy w' v.ownBlock ∧
      (v' = .slice none 0 0 ↔ v = .slice none 0 0 ∧ m = 0) ∧ (v'.ownBlock = v.ownBlock ∨ v'.ownBlock = some w.heap.size) := by
  obtain ⟨i, hi, hz⟩ := Option.map_eq_some_iff.1 G.hi
  simp only [Prod.mk.injEq] at hz
  obtain ⟨a1, a2, a3⟩ := hz
  have hml : xs.length + m ≤ maxLen := by simp only [maxLen]; omega
  have hbb : (xs.length + m) * G.bytes ≤ 140737488355328 := Nat.le_trans (Nat.mul_le_mul h63 G.hb) (by omega)
  cases ad with
  | some ad =>
    obtain ⟨v', w', h1, h2, h3, h4, h5⟩ := run_append_own_at w base G.sT ty G.e i G.z G.k G.bytes G.hT hi a1 a2 a3 G.hz G.h0 v xs.length (flatG G xs) hown ad m c (flatG G ls) (by rw [flatG_len, hn.1]) hn.news (flatG_one G ls) hml hbb hbase
    refine ⟨v', w', h1, ?_, h3, h4, h5⟩
    show World.ownsRow w' base G.e G.k v' (xs ++ ls).length (flatG G (xs ++ ls))
    rw [flatG_append, List.length_append, hn.1]
    exact h2
  | none =>
    have hm : m = 0 := by
      rcases hn.2 with h | ⟨b, off, h, _⟩
      · exact h
      · cases h
    obtain rfl := hc rfl
    subst hm
    obtain rfl : ls = [] := List.eq_nil_of_length_eq_zero hn.1
    refine ⟨v, w, run_append_owned_none w base G.sT ty G.e i G.k G.hT hi v xs.length (flatG G xs) hown, by rw [List.append_nil]; exact hown, World.grownBy.refl _ _, ⟨fun h => ⟨h, rfl⟩, fun h => h.1⟩, Or.inl rfl⟩

variable (G)
/-- in a list of operations -/
theorem wpList_append_g {w : World} {ops : Array Oper} {rest : List Oper} {o : Oper} {a : Act} {Q : Exit → Act → World → Prop} (hgd : o.guard = none) (s x : Operand)
    (ho : o.op = .call { callee := .builtin .append, args := #[s, x], argTypes := #[G.sT, G.sT] })
    (base : Nat) (v : Value) (xs : List α) (hs : a.eval s = v) (hown : OwnsG G base v xs w)
    (ad : Option Addr) (m c : Nat) (ls : List α) (hx : a.eval x = .slice ad m c) (hc : ad = none → c = 0) (hn : RowsAt G w ad m ls)
    (h63 : xs.length + m ≤ 1000000000) (hbase : base ≤ w.heap.size)
    (h : ∀ v' w', OwnsG G base v' (xs ++ ls) w' → w.grownBy w' v.ownBlock → (v' = .slice none 0 0 ↔ v = .slice none 0 0 ∧ m = 0) → (v'.ownBlock = v.ownBlock ∨ v'.ownBlock = some w.heap.size) → wpList Tryd.prog ops Q rest (a.put o.dst v') w') :
    wpList Tryd.prog ops Q (o :: rest) a w :=
  wpList_plain hgd fun _ hK => by
    obtain ⟨v', w', hr, h2, h3, h4, h5⟩ := run_append_g w base o.type v xs hown ad m c ls hc hn h63 hbase
    unfold Oper.wp execOp
    simp only [ho, resolve, invoke, builtin, Sem.run_bind, Sem.run_pure, Result.andThen_ok, List.map_toArray, List.map_cons, List.map_nil, hs, hx, hr]
    exact hK _ _ (h v' w' h2 h3 h4 h5)
/-- at a step of a region that draws its order -/
theorem step_append_g {w : World} {ops : Array Oper} {o : Oper} {a : Act} {K : Act → World → Prop} {Q : Exit → Act → World → Prop} {E : Prop} (hgd : o.guard = none) (s x : Operand)
    (ho : o.op = .call { callee := .builtin .append, args := #[s, x], argTypes := #[G.sT, G.sT] })
    (base : Nat) (v : Value) (xs : List α) (hs : a.eval s = v) (hown : OwnsG G base v xs w)
    (ad : Option Addr) (m c : Nat) (ls : List α) (hx : a.eval x = .slice ad m c) (hc : ad = none → c = 0) (hn : RowsAt G w ad m ls)
    (h63 : xs.length + m ≤ 1000000000) (hbase : base ≤ w.heap.size)
    (h : ∀ v' w', OwnsG G base v' (xs ++ ls) w' → w.grownBy w' v.ownBlock → (v' = .slice none 0 0 ↔ v = .slice none 0 0 ∧ m = 0) → (v'.ownBlock = v.ownBlock ∨ v'.ownBlock = some w.heap.size) → K (a.put o.dst v') w') :
    if Region.wanted o (yielded ops a.tmps) = true then Oper.wp Tryd.prog o a w K Q else E := by
  have hw : Region.wanted o (yielded ops a.tmps) = true := by simp [Region.wanted, hgd]
  rw [if_pos hw]
  obtain ⟨v', w', hr, h2, h3, h4, h5⟩ := run_append_g w base o.type v xs hown ad m c ls hc hn h63 hbase
  unfold Oper.wp execOp
  simp only [ho, resolve, invoke, builtin, Sem.run_bind, Sem.run_pure, Result.andThen_ok, List.map_toArray, List.map_cons, List.map_nil, hs, hx, hr]
  exact h v' w' h2 h3 h4 h5
variable {G}
theorem OwnsG.blk {w : World} {B : Nat} {v : Value} {ls : List α} (h : OwnsG G B v ls w) : ∀ k, v.ownBlock = some k → B ≤ k := fun k hk => (World.ownsRow.lt h k hk).1
end Go.Proofs.YtcdkgfjjgebcnaaDoor
