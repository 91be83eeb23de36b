/- Several texts as one (made by merge.py): BkMap, GRows, BkAt, BkCheck, BkBehind, BkSettle. -/
import Derived.Test.YtcdkgfjjgebcnaaDoorBookNum
import Derived.Test.YtcdkgfjjgebcnaaDoorOnly
import Derived.Maps.RangeWalk
import Derived.DeepKeys4
import Derived.Lib.Hide
import Derived.Test.YtcdkgfjjgebcnaaDoorErr
import Derived.Deep.Heap
import Derived.Deep.RegionLaw
import Derived.Test.YtcdkgfjjgebcnaaDoorBookC
import Derived.Test.YtcdkgfjjgebcnaaDoorLines
import Derived.Test.YtcdkgfjjgebcnaaDoorBkA
import Derived.Deep.OwnRows
/- The landed package book: a map by accounts: how its keys read; what it holds; look up, store, delete, len, range. -/
namespace Go.Proofs.YtcdkgfjjgebcnaaDoor
open Go Go.RowKit Go.Maps
set_option linter.unusedVariables false

abbrev accA (k o : Int) : Value := .agg #[.int .i64 k, .int .i64 o]
abbrev TAcc : TypeId := 24
abbrev TMap : TypeId := 60
abbrev TVal : TypeId := 2

theorem laidOut10 : laidOutB Tryd.prog = true := by kernel_rfl
theorem accRow : (24 : TypeId) < Tryd.prog.types.size := of_decide_eq_true (by kernel_rfl)
theorem accDeep : Tryd.prog.keyTypeAt 2 24 = true := by kernel_rfl
theorem accLaw0 : WideMaps.KeyLaw Tryd.prog 24 := deep_law_laid laidOut10 (m := 2) (by omega) accRow accDeep (by rw [Tryd.underlying24])
theorem accLaw : Keyed Tryd.prog TAcc := Keyed.of_law accLaw0
theorem accType : Tryd.prog.keyType TAcc = true := by kernel_rfl
theorem accCells : Tryd.prog.cellsOf TAcc = 2 := by kernel_rfl
theorem intCells10 : Tryd.prog.cellsOf 3 = 1 := by kernel_rfl
theorem typesSize : ∃ n, Tryd.prog.types.size + 1 = n + 2 := ⟨Tryd.prog.types.size - 1, by
  have : 1 ≤ Tryd.prog.types.size := of_decide_eq_true (by kernel_rfl)
  omega⟩

/-- an account as a map's key reads -/
def kl (k o : Int) : Lit := .string (keyBytes [.int .i64 k, .int .i64 o])

theorem wf64 {n : Int} (h : in64 n) : (Lit.int .i64 n).wf = true := WalkArith.wf_i64 h
theorem in64_wf {n : Int} (h : (Lit.int .i64 n).wf = true) : in64 n := by
  simp only [Lit.wf, Bool.and_eq_true, decide_eq_true_eq] at h
  have e1 : IntKind.i64.min = -9223372036854775808 := by decide
  have e2 : IntKind.i64.max = 9223372036854775807 := by decide
  rw [e1, e2] at h
  exact h

theorem lits_int (d : Nat) (v : Value) : Tryd.prog.keyLits (d + 1) 3 [v] = (match v with | .int .i64 n => if (Lit.int .i64 n).wf = true then some [.int .i64 n] else none | _ => none) := by
  unfold Program.keyLits
  rw [Tryd.underlying3]
  cases v <;> try rfl
  rename_i q n
  cases q <;> simp

theorem lits_acc (d : Nat) (a b : Value) : Tryd.prog.keyLits (d + 2) TAcc [a, b] = (Tryd.prog.keyLits (d + 1) 3 [a]).bind fun x => (Tryd.prog.keyLits (d + 1) 3 [b]).map fun y => x ++ y := by
  obtain ⟨x, hx⟩ : ∃ x, Tryd.prog.keyLits (d + 1) 3 [a] = x := ⟨_, rfl⟩
  obtain ⟨y, hy⟩ : ∃ y, Tryd.prog.keyLits (d + 1) 3 [b] = y := ⟨_, rfl⟩
  rw [hx, hy]
  unfold Program.keyLits
  rw [Tryd.underlying24]
  simp only [accCells]
  rw [if_pos ⟨rfl, by decide +kernel⟩]
  simp only [List.mapM_cons, List.mapM_nil, intCells10]
  simp only [List.drop_zero, List.drop_succ_cons, List.take_succ_cons, List.take_zero, hx, hy]
  cases x <;> cases y <;> simp

theorem keyOf_eq : ∃ n, ∀ v, keyOf Tryd.prog TAcc v = if v.formed Tryd.prog TAcc = true then (Tryd.prog.keyLits (n + 2) TAcc v.cells.toList).map (fun ls => .string (keyBytes ls)) else none := by
  obtain ⟨n, hn⟩ := typesSize
  refine ⟨n, fun v => ?_⟩
  have e : keyOf Tryd.prog TAcc v = if (Tryd.prog.keyType TAcc && v.formed Tryd.prog TAcc) = true then (Tryd.prog.keyLits (Tryd.prog.types.size + 1) TAcc v.cells.toList).map (fun ls => .string (keyBytes ls)) else none := by
    unfold keyOf
    rw [Tryd.underlying24]
  rw [e, accType, Bool.true_and, hn]
theorem keyOf_acc {k o : Int} (hk : in64 k) (ho : in64 o) : keyOf Tryd.prog TAcc (accA k o) = some (kl k o) := by
  obtain ⟨n, hn⟩ := keyOf_eq
  have hf : (accA k o).formed Tryd.prog TAcc = true := by
    unfold Value.formed
    rw [Tryd.underlying24]
    simp [accCells]
  rw [hn, if_pos hf, show (accA k o).cells.toList = [.int .i64 k, .int .i64 o] from rfl, lits_acc, lits_int, lits_int]
  simp only [wf64 hk, wf64 ho, if_true, Option.bind_some, Option.map_some]
  rfl

theorem formed_two {v : Value} (hf : v.formed Tryd.prog TAcc = true) : ∃ a b, v = .agg #[a, b] := by
  have hs : (match Tryd.prog.underlying TAcc with | some (.struct _) | some (.array _ _) => true | _ => false) = true := by rw [Tryd.underlying24]
  have hc : ∀ cs : Array Value, Value.formed Tryd.prog TAcc (.agg cs) = (cs.size == 2) := fun cs => by
    unfold Value.formed
    rw [Tryd.underlying24, ← accCells]
  have hn : ∀ u : Value, (∀ cs, u ≠ .agg cs) → Value.formed Tryd.prog TAcc u = false := fun u hu => by
    unfold Value.formed
    rw [Tryd.underlying24]
    cases u <;> first | rfl | exact absurd rfl (hu _)
  by_cases hu : ∃ cs, v = .agg cs
  · obtain ⟨cs, rfl⟩ := hu
    rw [hc] at hf
    have h2 : cs.size = 2 := eq_of_beq hf
    clear hf
    obtain ⟨l0⟩ := cs
    match l0, h2 with
    | [a, b], _ => exact ⟨a, b, rfl⟩
  · rw [hn v (fun cs e => hu ⟨cs, e⟩)] at hf
    cases hf
theorem keyOf_acc_inv {v : Value} {l : Lit} (h : keyOf Tryd.prog TAcc v = some l) : ∃ k o, in64 k ∧ in64 o ∧ v = accA k o ∧ l = kl k o := by
  obtain ⟨n, hn⟩ := keyOf_eq
  rw [hn] at h
  by_cases hf : v.formed Tryd.prog TAcc = true
  · rw [if_pos hf] at h
    obtain ⟨a, b, rfl⟩ := formed_two hf
    rw [show (Value.agg #[a, b]).cells.toList = [a, b] from rfl, lits_acc, lits_int, lits_int] at h
    cases a with
    | int qa xa =>
      cases qa <;> try (simp at h; done)
      by_cases ha : (Lit.int .i64 xa).wf = true
      · cases b with
        | int qb xb =>
          cases qb <;> try (simp at h; done)
          by_cases hb : (Lit.int .i64 xb).wf = true
          · simp only [ha, hb, if_true, Option.bind_some, Option.map_some, Option.some.injEq] at h
            exact ⟨xa, xb, in64_wf ha, in64_wf hb, rfl, h.symm⟩
          · simp [ha, hb] at h
        | _ => simp at h
      · simp [ha] at h
    | _ => simp at h
  · rw [if_neg hf] at h
    cases h

theorem kl_inj {k o k' o' : Int} (hk : in64 k) (ho : in64 o) (hk' : in64 k') (ho' : in64 o') (h : kl k o = kl k' o') : k = k' ∧ o = o' := by
  have h1 := keyOf_acc hk ho
  have h2 := keyOf_acc hk' ho'
  rw [h] at h1
  have := accLaw.inj h1 h2
  simp only [accA, Value.agg.injEq, Array.mk.injEq, List.cons.injEq, Value.int.injEq, true_and, and_true] at this
  simpa using this
theorem kl_key (k o : Int) : WideAt.IsKeyLit (kl k o) := by unfold kl; trivial

/-- what a map holds, by accounts -/
def MapOf (D : DataW Unit) (f : Int → Int → Option Int) : Prop := ∀ k o, in64 k → in64 o → (∀ zd, D.atKey (kl k o) zd = match f k o with | some v => .lit (.int .i64 v) | none => zd) ∧ ∀ v, f k o = some v → in64 v

theorem MapOf.has {D : DataW Unit} {f : Int → Int → Option Int} (h : MapOf D f) {k o : Int} (hk : in64 k) (ho : in64 o) : Maps.has D (kl k o) = (f k o).isSome := by
  have h1 := (h k o hk ho).1
  cases hf : f k o with
  | none => rw [hf] at h1; exact has_false_of_atKey h1
  | some v => rw [hf] at h1; exact has_true_of_atKey h1
theorem MapOf.at0 {D : DataW Unit} {f : Int → Int → Option Int} (h : MapOf D f) {k o : Int} (hk : in64 k) (ho : in64 o) : D.atKey (kl k o) (.lit (.int .i64 0)) = .lit (.int .i64 ((f k o).getD 0)) := by
  rw [(h k o hk ho).1]
  cases f k o <;> rfl

def putF (f : Int → Int → Option Int) (k o v : Int) : Int → Int → Option Int := fun k' o' => if k' = k ∧ o' = o then some v else f k' o'
def delF (f : Int → Int → Option Int) (k o : Int) : Int → Int → Option Int := fun k' o' => if k' = k ∧ o' = o then none else f k' o'
def noF : Int → Int → Option Int := fun _ _ => none

theorem MapOf.nil : MapOf (.map []) noF := fun k o _ _ => ⟨fun _ => rfl, fun v h => by cases h⟩
theorem MapOf.put {D : DataW Unit} {f : Int → Int → Option Int} (h : MapOf D f) (hD : IsMap D) {k o v : Int} (hk : in64 k) (ho : in64 o) (hv : in64 v) : MapOf (D.put (kl k o) (.lit (.int .i64 v))) (putF f k o v) := fun k' o' hk' ho' => by
  unfold putF
  by_cases e : k' = k ∧ o' = o
  · rw [if_pos e]
    obtain ⟨rfl, rfl⟩ := e
    exact ⟨fun zd => atKey_put_same hD (kl_key _ _) _ _, fun v' e => by cases e; exact hv⟩
  · rw [if_neg e]
    refine ⟨fun zd => ?_, (h k' o' hk' ho').2⟩
    rw [atKey_put_other (fun e' => e (kl_inj hk' ho' hk ho e'))]
    exact (h k' o' hk' ho').1 zd
theorem MapOf.del {D : DataW Unit} {f : Int → Int → Option Int} (h : MapOf D f) {k o : Int} (hk : in64 k) (ho : in64 o) : MapOf (D.del (kl k o)) (delF f k o) := fun k' o' hk' ho' => by
  unfold delF
  by_cases e : k' = k ∧ o' = o
  · rw [if_pos e]
    obtain ⟨rfl, rfl⟩ := e
    exact ⟨fun zd => atKey_del_same _, fun v' e => by cases e⟩
  · rw [if_neg e]
    refine ⟨fun zd => ?_, (h k' o' hk' ho').2⟩
    rw [atKey_del_other (fun e' => e (kl_inj hk' ho' hk ho e'))]
    exact (h k' o' hk' ho').1 zd

theorem zeroVal (w : World) : (zeroValue TVal).run Tryd.prog w = .ok (.int .i64 0) w := by kernel_rfl
theorem undMap : Tryd.prog.underlying TMap = some (.map TAcc TVal) := Tryd.underlying60
theorem undVal : Tryd.prog.underlying TVal = some (.int .i64) := Tryd.underlying2

/-- a map of at most n entries in block m that holds f -/
def OwnM (m n : Nat) (f : Int → Int → Option Int) (w : World) : Prop := ∃ D : DataW Unit, w.ownsMap Tryd.prog TAcc (plainElem Tryd.prog TVal) m n D ∧ MapOf D f

section
variable {m n : Nat} {f : Int → Int → Option Int} {w w' : World}
theorem OwnM.lt (h : OwnM m n f w) : m < w.heap.size := by obtain ⟨D, h1, _⟩ := h; exact h1.lt
theorem ownsMap_only' {D : DataW Unit} {F : Nat → Prop} (h : w.ownsMap Tryd.prog TAcc (plainElem Tryd.prog TVal) m n D) (ho : Only F w w') (hF : ¬ F m) : w'.ownsMap Tryd.prog TAcc (plainElem Tryd.prog TVal) m n D := by
  have hlt := h.lt
  obtain ⟨es, clock, hb, r⟩ := h
  exact ⟨es, clock, by rw [ho.block m hlt hF]; exact hb, r⟩
theorem OwnM.only {F : Nat → Prop} (h : OwnM m n f w) (ho : Only F w w') (hF : ¬ F m) : OwnM m n f w' := by
  obtain ⟨D, h1, h2⟩ := h
  exact ⟨D, ownsMap_only' h1 ho hF, h2⟩
theorem OwnM.up (h : OwnM m n f w) (hb : Below w.heap.size w w') : OwnM m n f w' := h.only (F := fun _ => False) (Only.of_below hb) id
theorem OwnM.mono {n' : Nat} (h : OwnM m n f w) (hn : n ≤ n') : OwnM m n' f w := by
  obtain ⟨D, h1, h2⟩ := h
  exact ⟨D, h1.mono hn, h2⟩
theorem OwnM.cong {f' : Int → Int → Option Int} (h : OwnM m n f w) (e : ∀ k o, in64 k → in64 o → f k o = f' k o) : OwnM m n f' w := by
  obtain ⟨D, h1, h2⟩ := h
  exact ⟨D, h1, fun k o hk ho => by rw [← e k o hk ho]; exact h2 k o hk ho⟩
theorem only_turned {b : Nat} (h : w.mapTurned w' b) : Only (fun k => k = b) w w' := by
  have g := h.grown
  exact ⟨g.os, g.tape, g.output, g.size, fun i hi hf => g.block i hi fun e => hf (by cases e; rfl)⟩
theorem OwnM.made (w : World) : OwnM w.heap.size 0 noF (w.alloc (.map #[] 0)) := ⟨.map [], World.ownsMap_made w _ _ _, MapOf.nil⟩
theorem OwnM.val {k o v : Int} (h : OwnM m n f w) (hk : in64 k) (ho : in64 o) (hv : f k o = some v) : in64 v := by
  obtain ⟨D, _, h2⟩ := h
  exact (h2 k o hk ho).2 v hv

/-- a look-up -/
theorem OwnM.look (h : OwnM m n f w) {k o : Int} (hk : in64 k) (ho : in64 o) : (Instr.lookup TMap (.map (some m)) (accA k o) false).run Tryd.prog w = .ok (.int .i64 ((f k o).getD 0)) w := by
  obtain ⟨D, h1, h2⟩ := h
  obtain ⟨c, hr, hat, _⟩ := h1.lookup_int accLaw undMap undVal (zeroVal w) (keyOf_acc hk ho)
  rw [h2.at0 hk ho] at hat
  simp only [DataW.lit.injEq, Lit.int.injEq, true_and] at hat
  rw [hat]; exact hr
/-- .. with the word whether it is there -/
theorem OwnM.look_ok (h : OwnM m n f w) {k o : Int} (hk : in64 k) (ho : in64 o) : (Instr.lookup TMap (.map (some m)) (accA k o) true).run Tryd.prog w = .ok (.tuple #[.int .i64 ((f k o).getD 0), .bool (f k o).isSome]) w := by
  obtain ⟨D, h1, h2⟩ := h
  obtain ⟨v, ps, hr, hv⟩ := h1.look_ok accLaw undMap (zeroVal w) (plainElem_int undVal (by decide)) (keyOf_acc hk ho)
  obtain ⟨c, rfl, hc, _⟩ := plainElem_int_inv undVal hv
  have hat := congrArg Prod.fst hc
  simp only at hat
  rw [h2.at0 hk ho] at hat
  simp only [DataW.lit.injEq, Lit.int.injEq, true_and] at hat
  rw [hat, ← h2.has hk ho]; exact hr
/-- a store -/
theorem OwnM.put (h : OwnM m n f w) (hn : n < maxLen) {k o v : Int} (hk : in64 k) (ho : in64 o) (hv : in64 v) : ∃ w', (Instr.mapUpdate TMap (.map (some m)) (accA k o) (.int .i64 v)).run Tryd.prog w = .ok () w' ∧ OwnM m (n + 1) (putF f k o v) w' ∧ Only (fun k => k = m) w w' := by
  obtain ⟨D, h1, h2⟩ := h
  obtain ⟨w', hr, h3, h4⟩ := h1.store accLaw undMap hn (keyOf_acc hk ho) (plainElem_int undVal (wf64 hv))
  exact ⟨w', hr, ⟨_, h3, h2.put h1.isMap hk ho hv⟩, only_turned h4⟩
/-- delete -/
theorem OwnM.del (h : OwnM m n f w) {k o : Int} (hk : in64 k) (ho : in64 o) (ty : TypeId) : ∃ w', (Builtin.delete_ #[TMap, TAcc] ty #[.map (some m), accA k o]).run Tryd.prog w = .ok (.tuple #[]) w' ∧ OwnM m n (delF f k o) w' ∧ Only (fun k => k = m) w w' := by
  obtain ⟨D, h1, h2⟩ := h
  obtain ⟨w', hr, h3, h4⟩ := h1.drop accLaw undMap (keyOf_acc hk ho) ty
  exact ⟨w', hr, ⟨_, h3, h2.del hk ho⟩, only_turned h4⟩
/-- len -/
theorem OwnM.len (h : OwnM m n f w) (ty : TypeId) : ∃ c, c ≤ n ∧ (Builtin.len_ #[TMap] ty #[.map (some m)]).run Tryd.prog w = .ok (.int .i64 ((c : Nat) : Int)) w := by
  obtain ⟨D, h1, h2⟩ := h
  exact ⟨Maps.size D, h1.size_le, h1.len undMap ty⟩
end

/-- a range over a map under way: left: whose turn is still to come; c: how many of them -/
def RangeM (m r n : Nat) (f : Int → Int → Option Int) (left : Int → Int → Bool) (c : Nat) (w : World) : Prop :=
  ∃ (D : DataW Unit) (l : Lit → Bool), w.ranges Tryd.prog TAcc (plainElem Tryd.prog TVal) m r n D l c ∧ MapOf D f ∧ ∀ k o, in64 k → in64 o → left k o = l (kl k o)

/-- one less to come -/
def struck (left : Int → Int → Bool) (k o : Int) : Int → Int → Bool := fun k' o' => left k' o' && !(decide (k' = k ∧ o' = o))

section
variable {m r n c : Nat} {f : Int → Int → Option Int} {left : Int → Int → Bool} {w w' : World}
theorem RangeM.only {F : Nat → Prop} (h : RangeM m r n f left c w) (ho : Only F w w') (h1 : ¬ F m) (h2 : ¬ F r) : RangeM m r n f left c w' := by
  obtain ⟨D, l, h, g1, g2⟩ := h
  have q1 := h.owns.lt
  have q2 := h.lt
  obtain ⟨es, clock, since, seen, c0, hb, F', hs, hD, hr, rest⟩ := h
  exact ⟨D, l, ⟨es, clock, since, seen, c0, (ho.block m q1 h1).trans hb, F', hs, hD, (ho.block r q2 h2).trans hr, rest⟩, g1, g2⟩
theorem RangeM.up (h : RangeM m r n f left c w) (hb : Below w.heap.size w w') : RangeM m r n f left c w' := h.only (F := fun _ => False) (Only.of_below hb) id id
theorem RangeM.owns (h : RangeM m r n f left c w) : OwnM m n f w := by
  obtain ⟨D, l, h, g1, g2⟩ := h
  exact ⟨D, h.owns, g1⟩
theorem RangeM.left_eq (h : RangeM m r n f left c w) : w.rangeLeft m r = c := by
  obtain ⟨D, l, h, g1, g2⟩ := h
  exact h.left_eq
theorem RangeM.lt (h : RangeM m r n f left c w) : r < w.heap.size := by
  obtain ⟨D, l, h, g1, g2⟩ := h
  exact h.lt
theorem OwnM.range (h : OwnM m n f w) : ∃ w' c, (Instr.range TMap (.map (some m))).run Tryd.prog w = .ok (.pointer (some ⟨w.heap.size, 0, none⟩)) w' ∧ RangeM m w.heap.size n f (fun k o => (f k o).isSome) c w' ∧ c ≤ n ∧ Below w.heap.size w w' ∧ w'.heap.size = w.heap.size + 1 := by
  obtain ⟨D, h1, h2⟩ := h
  obtain ⟨w', hr, h3, h4, h5⟩ := h1.range accLaw undMap
  exact ⟨w', Maps.size D, hr, ⟨D, _, h3, h2, fun k o hk ho => (h2.has hk ho).symm⟩, h1.size_le, (Below.refl _ w).grown h4 (Nat.le_refl _) (fun j hj => by cases hj), h5⟩
/-- the step -/
theorem RangeM.next (h : RangeM m r n f left c w) (ty : TypeId) :
    (c = 0 ∧ (∀ k o, in64 k → in64 o → left k o = false) ∧ (Instr.next (.pointer (some ⟨r, 0, none⟩)) false ty).run Tryd.prog w = .ok (.tuple #[.bool false]) w) ∨
    ∃ k o v w' c', in64 k ∧ in64 o ∧ in64 v ∧ left k o = true ∧ f k o = some v ∧ (Instr.next (.pointer (some ⟨r, 0, none⟩)) false ty).run Tryd.prog w = .ok (.tuple #[.bool true, accA k o, .int .i64 v]) w' ∧
      RangeM m r n f (struck left k o) c' w' ∧ c' < c ∧ Only (fun k => k = r) w w' ∧ (Instr.entry (.pointer (some ⟨r, 0, none⟩))).run Tryd.prog w' = .ok (.tuple #[accA k o, .int .i64 v]) w' := by
  obtain ⟨D, l, h, g1, g2⟩ := h
  rcases h.next accLaw ty with ⟨h0, hl, hr⟩ | ⟨key, v, kl', y, w', c', hkey, hlk, hv, hat, hr, hrg, hlt, hgr, hsz, hen⟩
  · exact Or.inl ⟨h0, fun k o hk ho => by rw [g2 k o hk ho]; exact hl _, hr⟩
  · obtain ⟨k, o, hk, ho, rfl, rfl⟩ := keyOf_acc_inv hkey
    obtain ⟨x, rfl, rfl, hx⟩ := plainElem_int_inv undVal hv
    have hf : f k o = some x := by
      have h1 := (g1 k o hk ho).1
      cases hf : f k o with
      | none =>
        rw [hf] at h1
        have h2 := hat (.lit (.int .i64 (x + 1)))
        rw [h1] at h2
        simp only [DataW.lit.injEq, Lit.int.injEq, true_and] at h2
        omega
      | some x' =>
        rw [hf] at h1
        have h2 := hat (.lit (.int .i64 x))
        rw [h1] at h2
        simp only [DataW.lit.injEq, Lit.int.injEq, true_and] at h2
        rw [h2]
    refine Or.inr ⟨k, o, x, w', c', hk, ho, in64_wf hx, by rw [g2 k o hk ho]; exact hlk, hf, hr, ⟨D, _, hrg, g1, fun k' o' hk' ho' => ?_⟩, hlt, ⟨hgr.os, hgr.tape, hgr.output, hgr.size, fun i hi hf => hgr.block i hi fun e => hf (by cases e; rfl)⟩, hen⟩
    show (left k' o' && _) = _
    rw [g2 k' o' hk' ho']
    have hs : (kl k' o').sameKey (kl k o) = decide (k' = k ∧ o' = o) := by
      by_cases e : k' = k ∧ o' = o
      · rw [decide_eq_true e]
        obtain ⟨rfl, rfl⟩ := e
        exact WideAt.sameKey_self (kl_key _ _)
      · rw [sameKey_ne (fun e' => e (kl_inj hk' ho' hk ho e')), decide_eq_false e]
    rw [hs]
end
end Go.Proofs.YtcdkgfjjgebcnaaDoor

/- Rows of structs of k cells, whatever struct: in memory, of the call's own, appended to. -/
namespace Go.Proofs.YtcdkgfjjgebcnaaDoor
open Go Go.RowKit
set_option linter.unusedVariables false

/-- a struct's type: its number, its slice's, its cells -/
structure GR (α : Type) where
  e : TypeId
  sT : TypeId
  k : Nat
  bytes : Nat
  z : Value
  enc : α → List Value
  hk : ∀ x, (enc x).length = k
  h1 : ∀ x, ∀ v ∈ enc x, v.oneCell' = true
  hi : (Tryd.prog.info? e).map (fun i => (i.zero, i.size, i.bytes)) = some (some z, k, bytes)
  hz : z.cells.size = k
  h0 : 0 < k
  hT : Tryd.prog.underlying sT = some (.slice e)
  hb : bytes ≤ 1000

variable {α : Type} (G : GR α)

/-- structs as cells, one behind the other -/
def flatG : List α → List Value
  | [] => []
  | x :: r => G.enc x ++ flatG r
theorem flatG_len (l : List α) : (flatG G l).length = l.length * G.k := by
  induction l with
  | nil => simp [flatG]
  | cons a l ih => simp only [flatG, List.length_cons, List.length_append, ih, G.hk, Nat.add_mul]; omega
theorem flatG_append (l r : List α) : flatG G (l ++ r) = flatG G l ++ flatG G r := by
  induction l with
  | nil => rfl
  | cons a l ih => simp only [List.cons_append, flatG, ih, List.append_assoc]
theorem flatG_one (l : List α) : ∀ u ∈ flatG G l, u.oneCell' = true := by
  induction l with
  | nil => intro u hu; cases hu
  | cons a l ih =>
    intro u hu
    simp only [flatG, List.mem_append] at hu
    exact hu.elim (G.h1 a u) (ih u)
theorem flatG_get {l : List α} {j : Nat} {x : α} (h : l[j]? = some x) {i : Nat} (hi : i < G.k) : (flatG G l)[j * G.k + i]? = (G.enc x)[i]? := by
  induction l generalizing j with
  | nil => simp at h
  | cons a l ih =>
    cases j with
    | zero =>
      simp only [List.getElem?_cons_zero, Option.some.injEq] at h; subst h
      rw [Nat.zero_mul, Nat.zero_add]
      simp only [flatG]
      rw [List.getElem?_append_left (by rw [G.hk]; exact hi)]
    | succ j =>
      simp only [List.getElem?_cons_succ] at h
      have e : (j + 1) * G.k + i = G.k + (j * G.k + i) := by rw [Nat.add_mul]; omega
      simp only [flatG]
      rw [List.getElem?_append_right (by rw [G.hk]; omega), G.hk, show (j + 1) * G.k + i - G.k = j * G.k + i by omega]
      exact ih h
theorem flatG_at {l : List α} {i : Nat} {u : Value} (h : (flatG G l)[i]? = some u) : ∃ x, l[i / G.k]? = some x ∧ (G.enc x)[i % G.k]? = some u := by
  have hk := G.h0
  have hi : i < l.length * G.k := by
    have := (List.getElem?_eq_some_iff.1 h).1
    rwa [flatG_len] at this
  have hj : i / G.k < l.length := (Nat.div_lt_iff_lt_mul hk).2 hi
  refine ⟨_, List.getElem?_eq_getElem hj, ?_⟩
  have := flatG_get G (List.getElem?_eq_getElem hj) (i := i % G.k) (Nat.mod_lt _ hk)
  rw [Nat.mul_comm, Nat.div_add_mod, h] at this
  exact this.symm

/-- a row of structs -/
def RowsAt (w : World) (a : Option Addr) (n : Nat) (ls : List α) : Prop :=
  ls.length = n ∧ (n = 0 ∨ ∃ b off, a = some ⟨b, off, none⟩ ∧ ∀ (j : Nat) (x : α), ls[j]? = some x → ∀ (i : Nat) (v : Value), (G.enc x)[i]? = some v → w.cell? ⟨b, off + j * G.k + i, none⟩ = some v)

variable {G}

theorem rowsAt_nil (w : World) (a : Option Addr) : RowsAt G w a 0 [] := ⟨rfl, Or.inl rfl⟩
theorem RowsAt.lt {w : World} {a : Option Addr} {n : Nat} {ls : List α} (h : RowsAt G w a n ls) : ∀ x, a = some x → n = 0 ∨ x.block < w.heap.size := fun x hx => by
  rcases h.2 with h0 | ⟨b, off, e, hc⟩
  · exact Or.inl h0
  · by_cases h0 : n = 0
    · exact Or.inl h0
    · rw [hx] at e
      cases e
      have hl : 0 < ls.length := by rw [h.1]; omega
      have hk := G.h0
      have := hc 0 _ (List.getElem?_eq_getElem hl) 0 _ (List.getElem?_eq_getElem (by rw [G.hk]; exact hk))
      rw [Nat.zero_mul] at this
      exact Or.inr (cell_lt this)
theorem RowsAt.of_block {w w' : World} {a : Option Addr} {n : Nat} {ls : List α} (h : RowsAt G w a n ls) (hb : ∀ x, a = some x → n = 0 ∨ w'.heap[x.block]? = w.heap[x.block]?) : RowsAt G w' a n ls := by
  refine ⟨h.1, ?_⟩
  rcases h.2 with h0 | ⟨b, off, e, hc⟩
  · exact Or.inl h0
  · rcases hb _ e with h0 | hb
    · exact Or.inl h0
    · exact Or.inr ⟨b, off, e, fun j x hj i v hv => (World.cell?_of_block (a := ⟨b, off + j * G.k + i, none⟩) hb).trans (hc j x hj i v hv)⟩
theorem RowsAt.up {w w' : World} {a : Option Addr} {n : Nat} {ls : List α} (h : RowsAt G w a n ls) (hb : Below w.heap.size w w') : RowsAt G w' a n ls :=
  h.of_block fun x hx => (h.lt x hx).elim Or.inl fun hl => Or.inr (hb.block _ hl)
theorem RowsAt.only {X : Nat → Prop} {w w' : World} {a : Option Addr} {n : Nat} {ls : List α} (h : RowsAt G w a n ls) (ho : Only X w w') (hX : ∀ x, a = some x → n = 0 ∨ ¬ X x.block) : RowsAt G w' a n ls :=
  h.of_block fun x hx => (h.lt x hx).elim Or.inl fun hl => (hX x hx).elim Or.inl fun hx' => Or.inr (ho.block _ hl hx')
theorem RowsAt.get {w : World} {a : Option Addr} {n : Nat} {ls : List α} (h : RowsAt G w a n ls) {j : Nat} (hj : j < n) :
    ∃ b off x, a = some ⟨b, off, none⟩ ∧ ls[j]? = some x ∧ x ∈ ls ∧ ∀ (i : Nat) (v : Value), (G.enc x)[i]? = some v → w.cell? ⟨b, off + j * G.k + i, none⟩ = some v := by
  have hl : j < ls.length := by rw [h.1]; exact hj
  rcases h.2 with h0 | ⟨b, off, e, hc⟩
  · omega
  · exact ⟨b, off, ls[j], e, List.getElem?_eq_getElem hl, List.getElem_mem hl, hc j _ (List.getElem?_eq_getElem hl)⟩
theorem RowsAt.news {w : World} {ad : Addr} {m : Nat} {ls : List α} (h : RowsAt G w (some ad) m ls) : ∀ i u, (flatG G ls)[i]? = some u → w.cell? (ad.add i) = some u := by
  intro i u hu
  obtain ⟨x, hx, hc⟩ := flatG_at G hu
  have hl := (List.getElem?_eq_some_iff.1 hx).1
  rcases h.2 with h0 | ⟨b, off, e, hcc⟩
  · have := h.1; rw [h0] at this; rw [this] at hl; exact absurd hl (Nat.not_lt_zero _)
  · cases e
    have := hcc _ x hx _ _ hc
    rw [Nat.add_assoc, Nat.mul_comm, Nat.div_add_mod] at this
    rw [Go.WideShapes.add_plain]
    exact this
/-- one struct that lies alone -/
theorem RowsAt.one {w : World} {b off : Nat} {x : α} (h : ∀ (i : Nat) (v : Value), (G.enc x)[i]? = some v → w.cell? ⟨b, off + i, none⟩ = some v) : RowsAt G w (some ⟨b, off, none⟩) 1 [x] := by
  refine ⟨rfl, Or.inr ⟨b, off, rfl, fun j y hj i v hv => ?_⟩⟩
  cases j with
  | zero =>
    simp only [List.getElem?_cons_zero, Option.some.injEq] at hj
    subst hj
    rw [Nat.zero_mul, Nat.add_zero]
    exact h i v hv
  | succ j => simp at hj

variable (G)
/-- a row of structs of the call's own -/
def OwnsG (B : Nat) (v : Value) (ls : List α) (w : World) : Prop := w.ownsRow B G.e G.k v ls.length (flatG G ls)
variable {G}
theorem ownsG_nil (w : World) (B : Nat) : OwnsG G B (.slice none 0 0) [] w := World.ownsRow_nil _ _ _ _
theorem OwnsG.up {w w' : World} {B : Nat} {v : Value} {ls : List α} (h : OwnsG G B v ls w) (hb : Below w.heap.size w w') : OwnsG G B v ls w' := by
  obtain ⟨h1, h2⟩ := h
  refine ⟨h1, ?_⟩
  rcases h2 with h2 | ⟨g, cap, cur, hv, hg, hh, r⟩
  · exact Or.inl h2
  · have hlt : g < w.heap.size := by
      rcases Nat.lt_or_ge g w.heap.size with h | h
      · exact h
      · rw [Array.getElem?_eq_none h] at hh; cases hh
    exact Or.inr ⟨g, cap, cur, hv, hg, by rw [hb.block g hlt]; exact hh, r⟩
theorem OwnsG.mono {w : World} {B B' : Nat} {v : Value} {ls : List α} (h : OwnsG G B v ls w) (hb : B' ≤ B) : OwnsG G B' v ls w := by
  obtain ⟨h1, h2⟩ := h
  refine ⟨h1, ?_⟩
  rcases h2 with h2 | ⟨g, cap, cur, hv, hg, r⟩
  · exact Or.inl h2
  · exact Or.inr ⟨g, cap, cur, hv, Nat.le_trans hb hg, r⟩
/-- what it looks like -/
theorem OwnsG.open {w : World} {B : Nat} {v : Value} {ls : List α} (h : OwnsG G B v ls w) :
    ∃ a c, v = .slice a ls.length c ∧ RowsAt G w a ls.length ls ∧ ls.length ≤ c ∧ c ≤ maxLen ∧ (a = none → c = 0) ∧ (∀ x, a = some x → B ≤ x.block ∧ x.off = 0 ∧ x.spot = none ∧ x.block < w.heap.size) ∧ (∀ x i, a = some x → w.frozen? ⟨x.block, i, none⟩ = false) := by
  rcases h.2 with ⟨rfl, h0⟩ | ⟨g, cap, cur, rfl, hB, hh, hc, hm, hs, ht⟩
  · have e : ls = [] := List.eq_nil_of_length_eq_zero h0
    subst e
    exact ⟨none, 0, rfl, rowsAt_nil _ _, Nat.le_refl _, by simp [maxLen], fun _ => rfl, (fun x hx => by cases hx), (fun x i hx => by cases hx)⟩
  · refine ⟨some ⟨g, 0, none⟩, cap, rfl, ⟨rfl, ?_⟩, hc, hm, (fun h => by cases h), fun x hx => ?_, fun x i hx => ?_⟩
    · refine Or.inr ⟨g, 0, rfl, fun j x hj i v hv => ?_⟩
      have hl := (List.getElem?_eq_some_iff.1 hj).1
      have hi : i < G.k := by
        have := (List.getElem?_eq_some_iff.1 hv).1
        rwa [G.hk] at this
      have hlt : j * G.k + i < ls.length * G.k := by
        have h2 : (j + 1) * G.k ≤ ls.length * G.k := Nat.mul_le_mul_right _ hl
        rw [Nat.add_mul] at h2
        omega
      rw [Nat.zero_add, h.cellAt (j * G.k + i) (by simpa using hlt), flatG_get G hj hi]
      exact hv
    · cases hx
      refine ⟨hB, rfl, rfl, ?_⟩
      rcases Nat.lt_or_ge g w.heap.size with h' | h'
      · exact h'
      · rw [Array.getElem?_eq_none h'] at hh; cases hh
    · cases hx
      exact h.frozenAt i

variable (G)
/-- a row of structs that was told: new memory, that may be written -/
def ToldG (base : Nat) (v : Value) (ls : List α) (w : World) : Prop :=
  ∃ a c, v = .slice a ls.length c ∧ (ls.length ≤ c ∧ (a = none → c = 0)) ∧ RowsAt G w a ls.length ls ∧ ∀ x, a = some x → ls.length = 0 ∨ (base ≤ x.block ∧ ∀ i, i < ls.length * G.k → w.frozen? ⟨x.block, x.off + i, none⟩ = false)
variable {G}
theorem OwnsG.told {w : World} {B : Nat} {v : Value} {ls : List α} (h : OwnsG G B v ls w) : ToldG G B v ls w := by
  obtain ⟨a, c, rfl, h1, h2, h3, h6, h4, h5⟩ := h.open
  exact ⟨a, c, rfl, ⟨h2, h6⟩, h1, fun x hx => Or.inr ⟨(h4 x hx).1, fun i _ => h5 x _ hx⟩⟩
theorem ToldG.up {base : Nat} {v : Value} {ls : List α} {w w' : World} (h : ToldG G base v ls w) (hb : Below w.heap.size w w') : ToldG G base v ls w' := by
  obtain ⟨a, c, h1, h2, h3, h4⟩ := h
  refine ⟨a, c, h1, h2, h3.up hb, fun x hx => ?_⟩
  rcases h4 x hx with h5 | ⟨h5, h6⟩
  · exact Or.inl h5
  · rcases h3.lt x hx with h7 | h7
    · exact Or.inl h7
    · exact Or.inr ⟨h5, fun i hi => by rw [hb.frozen (p := ⟨x.block, x.off + i, none⟩) h7]; exact h6 i hi⟩

theorem run_append_g (w : World) (base : Nat) (ty : TypeId) (v : Value) (xs : List α) (hown : OwnsG G base v xs w) (ad : Option Addr) (m c : Nat) (ls : List α) (hc : ad = none → c = 0) (hn : RowsAt G w ad m ls)
    (h63 : xs.length + m ≤ 1000000000) (hbase : base ≤ w.heap.size) :
    ∃ v' w', (Builtin.append_ #[G.sT, G.sT] ty #[v, .slice ad m c]).run Tryd.prog w = .ok v' w' ∧ OwnsG G base v' (xs ++ ls) w' ∧ w.grownBy w' v.ownBlock ∧
      (v' = .slice none 0 0 ↔ v = .slice none 0 0 ∧ m = 0) ∧ (v'.ownBlock = v.ownBlock ∨ v'.ownBlock = some w.heap.size) := by
  obtain ⟨i, hi, hz⟩ := Option.map_eq_some_iff.1 G.hi
  simp only [Prod.mk.injEq] at hz
  obtain ⟨a1, a2, a3⟩ := hz
  have hml : xs.length + m ≤ maxLen := by simp only [maxLen]; omega
  have hbb : (xs.length + m) * G.bytes ≤ 140737488355328 := Nat.le_trans (Nat.mul_le_mul h63 G.hb) (by omega)
  cases ad with
  | some ad =>
    obtain ⟨v', w', h1, h2, h3, h4, h5⟩ := run_append_own_at w base G.sT ty G.e i G.z G.k G.bytes G.hT hi a1 a2 a3 G.hz G.h0 v xs.length (flatG G xs) hown ad m c (flatG G ls) (by rw [flatG_len, hn.1]) hn.news (flatG_one G ls) hml hbb hbase
    refine ⟨v', w', h1, ?_, h3, h4, h5⟩
    show World.ownsRow w' base G.e G.k v' (xs ++ ls).length (flatG G (xs ++ ls))
    rw [flatG_append, List.length_append, hn.1]
    exact h2
  | none =>
    have hm : m = 0 := by
      rcases hn.2 with h | ⟨b, off, h, _⟩
      · exact h
      · cases h
    obtain rfl := hc rfl
    subst hm
    obtain rfl : ls = [] := List.eq_nil_of_length_eq_zero hn.1
    refine ⟨v, w, run_append_owned_none w base G.sT ty G.e i G.k G.hT hi v xs.length (flatG G xs) hown, by rw [List.append_nil]; exact hown, World.grownBy.refl _ _, ⟨fun h => ⟨h, rfl⟩, fun h => h.1⟩, Or.inl rfl⟩

variable (G)
/-- in a list of operations -/
theorem wpList_append_g {w : World} {ops : Array Oper} {rest : List Oper} {o : Oper} {a : Act} {Q : Exit → Act → World → Prop} (hgd : o.guard = none) (s x : Operand)
    (ho : o.op = .call { callee := .builtin .append, args := #[s, x], argTypes := #[G.sT, G.sT] })
    (base : Nat) (v : Value) (xs : List α) (hs : a.eval s = v) (hown : OwnsG G base v xs w)
    (ad : Option Addr) (m c : Nat) (ls : List α) (hx : a.eval x = .slice ad m c) (hc : ad = none → c = 0) (hn : RowsAt G w ad m ls)
    (h63 : xs.length + m ≤ 1000000000) (hbase : base ≤ w.heap.size)
    (h : ∀ v' w', OwnsG G base v' (xs ++ ls) w' → w.grownBy w' v.ownBlock → (v' = .slice none 0 0 ↔ v = .slice none 0 0 ∧ m = 0) → (v'.ownBlock = v.ownBlock ∨ v'.ownBlock = some w.heap.size) → wpList Tryd.prog ops Q rest (a.put o.dst v') w') :
    wpList Tryd.prog ops Q (o :: rest) a w :=
  wpList_plain hgd fun _ hK => by
    obtain ⟨v', w', hr, h2, h3, h4, h5⟩ := run_append_g w base o.type v xs hown ad m c ls hc hn h63 hbase
    unfold Oper.wp execOp
    simp only [ho, resolve, invoke, builtin, Sem.run_bind, Sem.run_pure, Result.andThen_ok, List.map_toArray, List.map_cons, List.map_nil, hs, hx, hr]
    exact hK _ _ (h v' w' h2 h3 h4 h5)
/-- at a step of a region that draws its order -/
theorem step_append_g {w : World} {ops : Array Oper} {o : Oper} {a : Act} {K : Act → World → Prop} {Q : Exit → Act → World → Prop} {E : Prop} (hgd : o.guard = none) (s x : Operand)
    (ho : o.op = .call { callee := .builtin .append, args := #[s, x], argTypes := #[G.sT, G.sT] })
    (base : Nat) (v : Value) (xs : List α) (hs : a.eval s = v) (hown : OwnsG G base v xs w)
    (ad : Option Addr) (m c : Nat) (ls : List α) (hx : a.eval x = .slice ad m c) (hc : ad = none → c = 0) (hn : RowsAt G w ad m ls)
    (h63 : xs.length + m ≤ 1000000000) (hbase : base ≤ w.heap.size)
    (h : ∀ v' w', OwnsG G base v' (xs ++ ls) w' → w.grownBy w' v.ownBlock → (v' = .slice none 0 0 ↔ v = .slice none 0 0 ∧ m = 0) → (v'.ownBlock = v.ownBlock ∨ v'.ownBlock = some w.heap.size) → K (a.put o.dst v') w') :
    if Region.wanted o (yielded ops a.tmps) = true then Oper.wp Tryd.prog o a w K Q else E := by
  have hw : Region.wanted o (yielded ops a.tmps) = true := by simp [Region.wanted, hgd]
  rw [if_pos hw]
  obtain ⟨v', w', hr, h2, h3, h4, h5⟩ := run_append_g w base o.type v xs hown ad m c ls hc hn h63 hbase
  unfold Oper.wp execOp
  simp only [ho, resolve, invoke, builtin, Sem.run_bind, Sem.run_pure, Result.andThen_ok, List.map_toArray, List.map_cons, List.map_nil, hs, hx, hr]
  exact h v' w' h2 h3 h4 h5
variable {G}
theorem OwnsG.blk {w : World} {B : Nat} {v : Value} {ls : List α} (h : OwnsG G B v ls w) : ∀ k, v.ownBlock = some k → B ≤ k := fun k hk => (World.ownsRow.lt h k hk).1
end Go.Proofs.YtcdkgfjjgebcnaaDoor

/- The landed package book: where books lie in memory; New, Len, stands, Balance. -/
namespace Go.Proofs.YtcdkgfjjgebcnaaDoor
open Go Go.RowKit
set_option linter.unusedVariables false

/-- the table stays where other blocks are written -/
theorem Kin.only {X : Nat → Prop} {w w' : World} (h : Kin w) (ho : Only X w w') (hX : ¬ X 0) : Kin w' where
  s1 := Nat.lt_of_lt_of_le h.s1 ho.size
  nm := fun k hk => (World.cell?_of_block (a := ⟨0, 3 * k, none⟩) (ho.block _ h.s1 hX)).trans (h.nm k hk)
  mo := fun k hk => (World.cell?_of_block (a := ⟨0, 3 * k + 1, none⟩) (ho.block _ h.s1 hX)).trans (h.mo k hk)
  de := fun k hk => (World.cell?_of_block (a := ⟨0, 3 * k + 2, none⟩) (ho.block _ h.s1 hX)).trans (h.de k hk)

/-- an entry as it lies: its lines' slice, whether it is paired -/
structure En where
  a : Option Addr
  n : Nat
  c : Nat
  d : Bool

def GEn : GR En where
  e := 71
  sT := 61
  k := 2
  bytes := 32
  z := .agg #[.slice none 0 0, .bool false]
  enc x := [.slice x.a x.n x.c, .bool x.d]
  hk _ := rfl
  h1 x v hv := by
    simp only [List.mem_cons, List.not_mem_nil, or_false] at hv
    rcases hv with rfl | rfl <;> rfl
  hi := by kernel_rfl
  hz := rfl
  h0 := by decide
  hT := Tryd.underlying61
  hb := by decide

/-- the balances that aren't 0 -/
def balF (s : Bk) : Int → Int → Option Int := fun k o => if s.bal k o = 0 then none else some (s.bal k o)
theorem balF_get (s : Bk) (k o : Int) : (balF s k o).getD 0 = s.bal k o := by
  unfold balF
  by_cases h : s.bal k o = 0
  · rw [if_pos h, h]; rfl
  · rw [if_neg h]; rfl

/-- an entry's lines -/
def OkE (l : List Ln) : Prop := 1 ≤ l.length ∧ l.length ≤ 32 ∧ OkL l ∧ ∀ x ∈ l, x.v ≠ -9223372036854775808

/-- books: their struct in block g, the entries' slice v, the map in m -/
structure BAt (F : Nat → Prop) (g m : Nat) (v : Value) (es : List En) (s : Bk) (N : Nat) (f : Int → Int → Option Int) (w : World) : Prop where
  r0 : Row g 63 [v, .map (some m)] w
  ent : OwnsG GEn 0 v es w
  le : es.length = s.L.length
  ld : s.done.length = s.L.length
  row : ∀ (j : Nat) (x : En) (ls : List Ln), es[j]? = some x → s.L[j]? = some ls → s.done[j]? = some x.d ∧ x.n = ls.length ∧ LinesAt w x.a x.n ls ∧ x.n ≤ x.c ∧ x.c ≤ maxLen ∧ ∀ ad, x.a = some ad → F ad.block ∧ ad.block ≠ g ∧ v.ownBlock ≠ some ad.block ∧ ad.block ≠ m
  mp : OwnM m N f w
  fg : F g
  fm : F m ∧ m ≠ g
  fv : ∀ q, v.ownBlock = some q → F q ∧ q ≠ g ∧ q ≠ m
  lt : ∀ k, F k → k < w.heap.size
  low : ∀ k, F k → 0 < k
  kin : Kin w
  big : s.L.length ≤ 4096
  ok : ∀ l ∈ s.L, OkE l

def BB (F : Nat → Prop) (p : Addr) (s : Bk) (w : World) : Prop := ∃ g m v es, p = ⟨g, 0, none⟩ ∧ BAt F g m v es s (32 * s.L.length) (balF s) w

theorem ownsG_only {α : Type} {G : GR α} {X : Nat → Prop} {w w' : World} {B : Nat} {v : Value} {ls : List α} (h : OwnsG G B v ls w) (ho : Only X w w') (hX : ∀ q, v.ownBlock = some q → ¬ X q) : OwnsG G B v ls w' := by
  have hl := fun q hq => (World.ownsRow.lt h q hq).2
  obtain ⟨h1, h2⟩ := h
  refine ⟨h1, ?_⟩
  rcases h2 with h2 | ⟨g, cap, cur, rfl, hg, hh, r⟩
  · exact Or.inl h2
  · exact Or.inr ⟨g, cap, cur, rfl, hg, by rw [ho.block g (hl g rfl) (hX g rfl)]; exact hh, r⟩

section
variable {F X : Nat → Prop} {g m : Nat} {v : Value} {es : List En} {s : Bk} {N : Nat} {f : Int → Int → Option Int} {w w' : World}
theorem BAt.only (H : BAt F g m v es s N f w) (ho : Only X w w') (hX : ∀ k, X k → ¬ F k) (T : Kin w') : BAt F g m v es s N f w' where
  r0 := H.r0.only ho fun hx => hX _ hx H.fg
  ent := ownsG_only H.ent ho fun q hq hx => hX _ hx (H.fv q hq).1
  le := H.le
  ld := H.ld
  row := fun j x ls h1 h2 => by
    obtain ⟨q1, q2, q3, q4, q5, q6⟩ := H.row j x ls h1 h2
    exact ⟨q1, q2, q3.only ho (fun ad e => Or.inr fun hx => hX _ hx (q6 ad e).1), q4, q5, q6⟩
  mp := H.mp.only ho fun hx => hX _ hx H.fm.1
  fg := H.fg
  fm := H.fm
  fv := H.fv
  lt := fun k hk => Nat.lt_of_lt_of_le (H.lt k hk) ho.size
  low := H.low
  kin := T
  big := H.big
  ok := H.ok
theorem BAt.up (H : BAt F g m v es s N f w) (hb : Below w.heap.size w w') : BAt F g m v es s N f w' :=
  H.only (X := fun _ => False) (Only.of_below hb) (fun _ h => h.elim) (H.kin.of hb)
theorem BAt.cells (H : BAt F g m v es s N f w) : w.cell? ⟨g, 0, none⟩ = some v ∧ w.cell? ⟨g, 1, none⟩ = some (.map (some m)) := ⟨H.r0.cell (j := 0) (by simp), H.r0.cell (j := 1) (by simp)⟩
theorem BAt.slice (H : BAt F g m v es s N f w) : ∃ a c, v = .slice a s.L.length c ∧ s.L.length ≤ c ∧ c ≤ maxLen ∧ RowsAt GEn w a s.L.length es := by
  obtain ⟨a, c, h1, h2, h3, h4, -⟩ := H.ent.open
  rw [H.le] at h1 h2 h3
  exact ⟨a, c, h1, h3, h4, h2⟩
/-- the entry at a place -/
theorem BAt.entry (H : BAt F g m v es s N f w) {j : Nat} (hj : j < s.L.length) : ∃ q c x ls, v = .slice (some ⟨q, 0, none⟩) s.L.length c ∧ F q ∧ q ≠ g ∧ q ≠ m ∧ es[j]? = some x ∧ s.L[j]? = some ls ∧ ls ∈ s.L ∧ s.done[j]? = some x.d ∧ x.n = ls.length ∧ LinesAt w x.a x.n ls ∧ x.n ≤ x.c ∧ x.c ≤ maxLen ∧
    (∀ ad, x.a = some ad → F ad.block ∧ ad.block ≠ g ∧ v.ownBlock ≠ some ad.block ∧ ad.block ≠ m) ∧ w.cell? ⟨q, j * 2, none⟩ = some (.slice x.a x.n x.c) ∧ w.cell? ⟨q, j * 2 + 1, none⟩ = some (.bool x.d) := by
  have hje : j < es.length := by rw [H.le]; exact hj
  obtain ⟨a, c, h1, h2, h3, h4, h5, h6, h7⟩ := H.ent.open
  obtain ⟨b, off, x, rfl, hx, -, hc⟩ := h2.get hje
  obtain ⟨g1, g2, g3, g4⟩ := h6 _ rfl
  simp only at g2
  subst g2
  have hl := List.getElem?_eq_getElem hj
  obtain ⟨q1, q2, q3, q4, q5, q6⟩ := H.row j x _ hx hl
  have hv : v.ownBlock = some b := by rw [h1]; rfl
  obtain ⟨f1, f2, f3⟩ := H.fv b hv
  rw [H.le] at h1
  have c0 := hc 0 _ rfl
  have c1 := hc 1 _ rfl
  rw [show GEn.k = 2 from rfl, Nat.zero_add, Nat.add_zero] at c0
  rw [show GEn.k = 2 from rfl, Nat.zero_add] at c1
  exact ⟨b, c, x, _, h1, f1, f2, f3, hx, hl, List.getElem_mem hj, q1, q2, q3, q4, q5, q6, c0, c1⟩
/-- the map has turned -/
theorem BAt.remap {N' : Nat} {f' : Int → Int → Option Int} (H : BAt F g m v es s N f w) (ho : Only (fun k => k = m) w w') (hm : OwnM m N' f' w') (T : Kin w') : BAt F g m v es s N' f' w' where
  r0 := H.r0.only ho (fun e => H.fm.2 e.symm)
  ent := ownsG_only H.ent ho fun q hq hx => (H.fv q hq).2.2 hx
  le := H.le
  ld := H.ld
  row := fun j x ls h1 h2 => by
    obtain ⟨q1, q2, q3, q4, q5, q6⟩ := H.row j x ls h1 h2
    exact ⟨q1, q2, q3.only ho (fun ad e => Or.inr (q6 ad e).2.2.2), q4, q5, q6⟩
  mp := hm
  fg := H.fg
  fm := H.fm
  fv := H.fv
  lt := fun k hk => Nat.lt_of_lt_of_le (H.lt k hk) ho.size
  low := H.low
  kin := T
  big := H.big
  ok := H.ok
end

theorem build_book (m : Nat) (w : World) : (Instr.build 63 #[(1, .map (some m))]).run Tryd.prog w = .ok (.agg #[.slice none 0 0, .map (some m)]) w := run_build w 63 _ _ (by kernel_rfl)

set_option maxHeartbeats 2000000 in
theorem new10_any (w : World) (T : Kin w) : Calls Tryd.prog 11 #[] w fun e w' => Below w.heap.size w w' ∧ ∃ p F, e = .returned (.pointer (some p)) ∧ BB F p Bk.zero w' ∧ ∀ k, F k → w.heap.size ≤ k := by
  have hmm := @run_makeMap Tryd.prog
  have hbb := build_book
  have hM := OwnM.made w
  have hB1 := (Below.refl w.heap.size w).alloc (Nat.le_refl _) (.map #[] 0)
  have HB := Lib.hid (hB1.alloc (by simp) (Obj.cells #[.slice none 0 0, .map (some w.heap.size)] 63))
  have HR := Lib.hid (Row.new (w.alloc (.map #[] 0)) [.slice none 0 0, .map (some w.heap.size)] 63)
  have HM := Lib.hid (hM.up ((Below.refl _ (w.alloc (.map #[] 0))).alloc (Nat.le_refl _) (Obj.cells #[.slice none 0 0, .map (some w.heap.size)] 63)))
  have HT := Lib.hid (T.of HB.out)
  have HTK := Lib.hid T.s1
  clear T hM hB1
  go_enter Tryd.func11, Tryd.ntmps11
  go_wp2_with fail
  go_ret
  refine ⟨HB.out, ⟨w.heap.size + 1, 0, none⟩, fun k => w.heap.size ≤ k ∧ k < w.heap.size + 2, by simp, ⟨w.heap.size + 1, w.heap.size, .slice none 0 0, [], rfl, ?_⟩, fun k hk => hk.1⟩
  have hr := HR.out
  rw [World.size_alloc] at hr
  exact ⟨hr, ownsG_nil _ _, rfl, rfl, (fun j x ls h => by simp at h), HM.out.cong (fun k o _ _ => rfl), ⟨by omega, by omega⟩, ⟨⟨by omega, by omega⟩, by omega⟩, (fun q h => by cases h), (fun k hk => by simp; omega), (fun k hk => Nat.lt_of_lt_of_le HTK.out hk.1), HT.out, by simp [Bk.zero], (fun l hl => by cases hl)⟩

set_option maxHeartbeats 2000000 in
theorem len10_any {F : Nat → Prop} {g m : Nat} {v : Value} {es : List En} {s : Bk} {N : Nat} {f : Int → Int → Option Int} (w : World) (H : BAt F g m v es s N f w) :
    Calls Tryd.prog 15 #[.pointer (some ⟨g, 0, none⟩)] w fun e w' => e = .returned (.int .i64 (s.L.length : Int)) ∧ w' = w := by
  obtain ⟨c0, c1⟩ := H.cells
  obtain ⟨a, c, rfl, -⟩ := H.slice
  clear H
  go_enter Tryd.func15, Tryd.ntmps15
  go_wp2_with fail
  go_ret
  exact ⟨by simp, rfl⟩

/-- is there such an entry? -/
def standsN (s : Bk) (n : Int) : Bool := decide (0 ≤ n ∧ n < (s.L.length : Int))

set_option maxHeartbeats 2000000 in
theorem stands_any {F : Nat → Prop} {g m : Nat} {v : Value} {es : List En} {s : Bk} {N : Nat} {f : Int → Int → Option Int} (n : Int) (w : World) (H : BAt F g m v es s N f w) (hn : in64 n) :
    Calls Tryd.prog 30 #[.pointer (some ⟨g, 0, none⟩), .int .i64 n] w fun e w' => e = .returned (.bool (standsN s n)) ∧ w' = w := by
  obtain ⟨c0, c1⟩ := H.cells
  obtain ⟨a, c, rfl, -⟩ := H.slice
  have HN := Lib.hid hn
  clear H hn
  by_cases h1 : 0 ≤ n
  · by_cases h2 : n < (s.L.length : Int)
    · have HS : Hid (standsN s n = true) := decide_eq_true ⟨h1, h2⟩
      go_enter Tryd.func30, Tryd.ntmps30
      go_wp2_with fail
      go_ret
      exact ⟨by rw [HS.out]; simp, rfl⟩
    · have HS : Hid (standsN s n = false) := decide_eq_false fun h => h2 h.2
      go_enter Tryd.func30, Tryd.ntmps30
      go_wp2_with fail
      go_ret
      exact ⟨by rw [HS.out]; simp, rfl⟩
  · have HS : Hid (standsN s n = false) := decide_eq_false fun h => h1 h.1
    go_enter Tryd.func30, Tryd.ntmps30
    go_wp2_with fail
    go_ret
    exact ⟨by rw [HS.out]; simp, rfl⟩

set_option maxHeartbeats 4000000 in
theorem balance10_any {F : Nat → Prop} {g m : Nat} {v : Value} {es : List En} {s : Bk} {N : Nat} (k o : Int) (w : World) (H : BAt F g m v es s N (balF s) w) (hk : in64 k) (ho : in64 o) :
    Calls Tryd.prog 16 #[.pointer (some ⟨g, 0, none⟩), .agg #[.int .i64 k, .int .i64 o]] w fun e w' => Below w.heap.size w w' ∧ e = .returned (.int .i64 (s.bal k o)) := by
  obtain ⟨w1, hw1⟩ : ∃ w1, w1 = w.alloc (Obj.cells #[.int .i64 k, .int .i64 o] 24) := ⟨_, rfl⟩
  have hb1 : Below w.heap.size w w1 := hw1 ▸ (Below.refl w.heap.size w).alloc (Nat.le_refl _) _
  have H1 := H.up hb1
  obtain ⟨c0, c1⟩ := H1.cells
  obtain ⟨bx, hbx⟩ : ∃ bx, bx = w.heap.size := ⟨_, rfl⟩
  have b0 : w1.cell? ⟨bx, 0, none⟩ = some (.int .i64 k) := by rw [hw1, hbx]; simp
  have b1 : w1.cell? ⟨bx, 1, none⟩ = some (.int .i64 o) := by rw [hw1, hbx]; simp
  have hl : ∀ q, (Instr.lookup TMap (.map (some m)) (.agg #[.int .i64 k, .int .i64 o]) false).run Tryd.prog (w1.drewN q) = .ok (.int .i64 (s.bal k o)) (w1.drewN q) := fun q => by
    have h := (H1.mp.up (below_drewN (Below.refl _ w1) q)).look hk ho
    rw [balF_get] at h
    exact h
  have HB := Lib.hid hb1
  clear H H1 hk ho hb1
  go_enter Tryd.func16, Tryd.ntmps16
  go_wp2_with fail
  rw [← hw1, ← hbx]
  clear hw1 hbx
  go_quiet (fail)
  go_wp2_with fail
  go_ret
  exact ⟨below_drewN HB.out _, rfl⟩
end Go.Proofs.YtcdkgfjjgebcnaaDoor

/- The landed package book: why lines can be no entry, whatever the balances. -/
namespace Go.Proofs.YtcdkgfjjgebcnaaDoor
open Go Go.RowKit
set_option linter.unusedVariables false

/-- why lines can be no entry: an error's number -/
def checkN (l : List Ln) : Nat := if l.length < 1 ∨ 32 < l.length then 1 else if l.any badL = true then 1 else if sumV l ≠ 0 then 2 else 0

theorem made_rep10 (z : Value) (n : Nat) : madeCells #[z] n = (List.replicate n z).toArray := by
  refine Array.ext ?_ fun i h1 h2 => ?_
  · simp [size_madeCells]
  · simp [madeCells, Nat.mod_one]
theorem any_step10 {l : List Ln} {j : Nat} {x : Ln} (h : l[j]? = some x) : (l.take (j + 1)).any badL = ((l.take j).any badL || badL x) := by
  rw [List.take_add_one, h]
  simp
theorem any_take10 {l : List Ln} {j : Nat} (h : (l.take j).any badL = true) : l.any badL = true := by
  rw [List.any_eq_true] at h ⊢
  obtain ⟨x, hx, hb⟩ := h
  exact ⟨x, List.mem_of_mem_take hx, hb⟩
theorem badL_iff10 (x : Ln) : badL x = true ↔ (¬ MayK x.k x.o ∨ x.v = 0) := by
  unfold badL
  simp
theorem info_v64 : (Tryd.prog.info? 2).map (fun i => (i.zero, i.size, i.bytes)) = some (some (.int .i64 0), 1, 8) := by kernel_rfl

/-- the amounts so far -/
structure AmAt (w : World) (n : Nat) (ls : List Ln) (j : Nat) (W : World) : Prop where
  row : Row w.heap.size 2 (((ls.take j).map fun x : Ln => Value.int .i64 x.v) ++ List.replicate (n - j) (.int .i64 0)) W
  below : Below w.heap.size w W
theorem AmAt.up {w : World} {n : Nat} {ls : List Ln} {j : Nat} {W W' : World} (h : AmAt w n ls j W) (hb : Below W.heap.size W W') : AmAt w n ls j W' := ⟨h.row.up hb, h.below.trans (hb.mono h.below.size)⟩

theorem AmAt.put {w : World} {n : Nat} {ls : List Ln} {j : Nat} {W : World} {x : Ln} (h : AmAt w n ls j W) (hx : ls[j]? = some x) (hj : j < ls.length) (hn : ls.length = n) : AmAt w n ls (j + 1) (W.setCell ⟨w.heap.size, j, none⟩ (.int .i64 x.v)) := by
  refine ⟨?_, h.below.setCell (Nat.le_refl _) _⟩
  have h1 := h.row.set j (.int .i64 x.v)
  have e : (((ls.take j).map fun x : Ln => Value.int .i64 x.v) ++ List.replicate (n - j) (Value.int .i64 0)).set j (.int .i64 x.v) = ((ls.take (j + 1)).map fun x : Ln => Value.int .i64 x.v) ++ List.replicate (n - (j + 1)) (Value.int .i64 0) := by
    have hl : ((ls.take j).map fun x : Ln => Value.int .i64 x.v).length = j := by simp; omega
    rw [List.set_append_right _ _ (by rw [hl]; exact Nat.le_refl _), hl, Nat.sub_self, show n - j = (n - (j + 1)) + 1 by omega, List.replicate_succ, List.set_cons_zero]
    rw [List.take_add_one, hx]
    simp
  rw [e] at h1
  exact h1
theorem AmAt.elems {w : World} {n : Nat} {ls : List Ln} {W : World} (h : AmAt w n ls n W) (hn : ls.length = n) (hok : OkL ls) (h0 : 0 < n) : Elems W (some ⟨w.heap.size, 0, none⟩) n (ls.map fun x : Ln => x.v) := by
  refine ⟨by simp [hn], fun y hy => ?_, Or.inr ⟨_, 0, rfl, fun j hj => ?_⟩⟩
  · obtain ⟨x, hx, rfl⟩ := List.mem_map.1 hy
    exact (hok x hx).2.2
  · have hr := h.row
    rw [List.take_of_length_le (by omega), Nat.sub_self, List.replicate_zero, List.append_nil] at hr
    rw [Nat.zero_add, hr.cell (by simp [hn]; exact hj)]
    have hj' : j < ls.length := by omega
    simp [List.getD_eq_getElem?_getD, hj']
theorem sumI_map (ls : List Ln) : sumI (ls.map fun x : Ln => x.v) = sumV ls := by
  induction ls with
  | nil => rfl
  | cons a l ih => simp only [List.map_cons, sumI, sumV, ih]

/-- a line in a box of its own -/
structure LnBox (b : Nat) (x : Ln) (w : World) : Prop where
  c0 : w.cell? ⟨b, 0, none⟩ = some (.int .i64 x.k)
  c1 : w.cell? ⟨b, 1, none⟩ = some (.int .i64 x.o)
  c2 : w.cell? ⟨b, 2, none⟩ = some (.int .i64 x.v)
theorem box_new (w : World) (x : Ln) : LnBox w.heap.size x (w.alloc (Obj.cells #[.int .i64 x.k, .int .i64 x.o, .int .i64 x.v] 56)) := ⟨by simp, by simp, by simp⟩
theorem LnBox.up {b : Nat} {x : Ln} {w w' : World} (h : LnBox b x w) (hb : Below w.heap.size w w') : LnBox b x w' :=
  ⟨(hb.cell (p := ⟨b, 0, none⟩) (cell_lt h.c0)).trans h.c0, (hb.cell (p := ⟨b, 1, none⟩) (cell_lt h.c1)).trans h.c1, (hb.cell (p := ⟨b, 2, none⟩) (cell_lt h.c2)).trans h.c2⟩
theorem LnBox.cells {b : Nat} {x : Ln} {w : World} (h : LnBox b x w) : w.cell? ⟨b, 0, none⟩ = some (.int .i64 x.k) ∧ w.cell? ⟨b, 1, none⟩ = some (.int .i64 x.o) ∧ w.cell? ⟨b, 2, none⟩ = some (.int .i64 x.v) := ⟨h.c0, h.c1, h.c2⟩

set_option maxHeartbeats 8000000 in
theorem check10_any (a : Option Addr) (n c : Nat) (ls : List Ln) (w : World) (T : Kin w) (hl : LinesAt w a n ls) (hok : OkL ls) (hc : n ≤ c) (hn : n ≤ 1000) :
    Calls Tryd.prog 37 #[.slice a n c] w fun e w' => e = .returned (errv (checkN ls : Int)) ∧ Below w.heap.size w w' := by
  have r1 := run_neq_errv_nil
  have g1 := guard_neq_errv_nil
  have HLN := Lib.hid hl.1
  have HL := Lib.hid hl
  have HOK := Lib.hid hok
  have HT := Lib.hid T
  clear hl hok T
  by_cases h0 : n < 1
  · have HC : Hid (checkN ls = 1) := if_pos (Or.inl (by rw [HLN.out]; exact h0))
    go_enter Tryd.func37, Tryd.ntmps37
    go_wp2_with fail
    go_ret
    exact ⟨by rw [HC.out]; rfl, Below.refl _ _⟩
  · by_cases h32 : 32 < n
    · have HC : Hid (checkN ls = 1) := if_pos (Or.inr (by rw [HLN.out]; exact h32))
      go_enter Tryd.func37, Tryd.ntmps37
      go_wp2_with fail
      go_ret
      exact ⟨by rw [HC.out]; rfl, Below.refl _ _⟩
    · have HC : Hid (checkN ls = if ls.any badL = true then 1 else if sumV ls ≠ 0 then 2 else 0) := if_neg (by rw [HLN.out]; omega)
      have hm1 := run_make_row' (P := Tryd.prog) 92 2 (.int .i64 0) 8 Tryd.underlying92 info_v64 rfl .i64 .i64 n (by omega) (by omega)
      simp only [made_rep10] at hm1
      go_enter Tryd.func37, Tryd.ntmps37
      go_wp2_with fail
      go_loopw [22] (fun i wr => ∃ j : Nat, i = .int .i64 (j : Int) ∧ j ≤ n ∧ Hid (AmAt w n ls j wr) ∧ Hid ((ls.take j).any badL = false)) (fun i _ => n - (RowKit.intOf i).toNat)
      case atStart => exact ⟨0, rfl, by omega, ⟨by have h := Row.new w (List.replicate n (.int .i64 0)) 2; simpa using h, (Below.refl _ _).alloc (Nat.le_refl _) _⟩, by rw [List.take_zero]; exact rfl⟩
      case round =>
        obtain ⟨j, rfl, hj, hX, hbad⟩ := hrel
        by_cases hlt : j < n
        · have u1 : (j : Int) < (n : Int) := by omega
          obtain ⟨q, o, x, rfl, hx, hxm, x0, x1, x2⟩ := (HL.out.up hX.out.below).get hlt
          have hany := any_step10 hx
          have HX64 := Lib.hid (HOK.out x hxm)
          have HANY := Lib.hid hany
          have HXJ := Lib.hid hx
          have HBX := Lib.hid (box_new wr x)
          have hA : Below wr.heap.size wr (wr.alloc (Obj.cells #[.int .i64 x.k, .int .i64 x.o, .int .i64 x.v] 56)) := (Below.refl _ _).alloc (Nat.le_refl _) _
          replace hX := Lib.hid (hX.out.up hA)
          clear hany hx hA
          go_wp2_with fail
          refine (may_any x.k x.o _ (HT.out.of hX.out.below) HX64.out.1 HX64.out.2.1).mono ?_
          rintro e w3 ⟨rfl, hb3⟩
          replace hX := Lib.hid (hX.out.up hb3)
          replace HBX := Lib.hid (HBX.out.up hb3)
          obtain ⟨b0, b1, b2⟩ := HBX.out.cells
          clear hb3 x0 x1 x2
          by_cases hbx : badL x = true
          · have hr : Hid (checkN ls = 1) := by
              show _ = _
              rw [HC.out, if_pos]
              refine any_take10 (j := j + 1) ?_
              rw [HANY.out, hbx]
              simp
            have hcase : ¬ MayK x.k x.o ∨ (MayK x.k x.o ∧ (x.v == 0) = true) := by
              rcases (badL_iff10 x).1 hbx with h | h
              · exact Or.inl h
              · by_cases hm : MayK x.k x.o
                · exact Or.inr ⟨hm, by simp [h]⟩
                · exact Or.inl hm
            clear hbx
            rcases hcase with hm | ⟨hm, tv⟩
            all_goals
              simp only [hm, decide_true, decide_false]
              clear hm
              go_wp2_with fail
              go_ret
              exact ⟨by rw [hr.out]; rfl, hX.out.below⟩
          · have hm : MayK x.k x.o ∧ (x.v == 0) = false := by
              have := mt (badL_iff10 x).2 hbx
              simp only [not_or, Decidable.not_not] at this
              exact ⟨this.1, by simpa using this.2⟩
            have hbf : badL x = false := by simpa using hbx
            have hnew : Hid ((ls.take (j + 1)).any badL = false) := by show _ = _; rw [HANY.out, hbad.out, hbf]; rfl
            obtain ⟨hm, tv⟩ := hm
            simp only [hm, decide_true]
            have f0 := hX.out.row.frozen j
            have HXN := Lib.hid (hX.out.put HXJ.out (by rw [HLN.out]; exact hlt) HLN.out)
            have k0 := hX.out.row.cell (j := j) (by simp [HLN.out]; omega)
            clear hm hbx hbf hbad
            go_wp2_with fail
            go_roundw
            case rel => exact ⟨j + 1, by go_num, by omega, HXN, hnew⟩
            case measure => simp [RowKit.intOf]; omega
        · have u1 : ¬ (j : Int) < (n : Int) := by omega
          have hjn : ls.take j = ls := List.take_of_length_le (by rw [HLN.out]; omega)
          obtain rfl : j = n := by omega
          rw [hjn] at hbad
          have HEL : Hid (Elems wr (some ⟨w.heap.size, 0, none⟩) j (ls.map fun x : Ln => x.v)) := hX.out.elems HLN.out HOK.out (by omega)
          have HSV := Lib.hid (sumI_map ls)
          have HR2 : Hid (checkN ls = if sumV ls ≠ 0 then 2 else 0) := by
            show _ = _
            rw [HC.out, hbad.out, if_neg (by simp)]
          clear hjn hlt hbad
          go_wp2_with fail
          refine (sum_any _ j j _ _ (by omega) HEL.out).mono ?_
          rintro e w3 ⟨rfl, rfl⟩
          rw [HSV.out]
          obtain ⟨S, hS⟩ : ∃ S, sumV ls = S := ⟨_, rfl⟩
          rw [hS] at HR2 ⊢
          clear hS HSV HEL
          by_cases hin : -9223372036854775808 ≤ S ∧ S ≤ 9223372036854775807
          · obtain ⟨q1, q2⟩ := ov_in hin
            rw [q1, q2]
            clear q1 q2
            by_cases h0 : S = 0
            · subst h0
              have HR3 : Hid (checkN ls = 0) := by show _ = _; rw [HR2.out]; rfl
              go_wp2_with fail
              go_ret
              exact ⟨by rw [HR3.out]; rfl, hX.out.below⟩
            · have HR3 : Hid (checkN ls = 2) := by show _ = _; rw [HR2.out, if_pos h0]
              have h1 : (S != 0) = true := by simpa using h0
              clear h0
              go_wp2_with fail
              go_ret
              exact ⟨by rw [HR3.out]; rfl, hX.out.below⟩
          · obtain ⟨q1, q2⟩ := ov_out hin
            rw [q1, q2]
            clear q1 q2
            have HR3 : Hid (checkN ls = 2) := by show _ = _; rw [HR2.out, if_pos (by omega)]
            go_wp2_with fail
            go_ret
            exact ⟨by rw [HR3.out]; rfl, hX.out.below⟩
end Go.Proofs.YtcdkgfjjgebcnaaDoor

/- The landed package book: the balances of the lines' accounts behind them; let stand. -/
namespace Go.Proofs.YtcdkgfjjgebcnaaDoor
open Go Go.RowKit
set_option linter.unusedVariables false

/-- is an account among lines? -/
def hasA (l : List Ln) (k o : Int) : Bool := l.any fun x => decide (x.k = k ∧ x.o = o)
theorem hasA_no {l : List Ln} {k o : Int} (h : hasA l k o = false) : balL k o l = 0 := by
  by_cases e : balL k o l = 0
  · exact e
  · obtain ⟨x, hx, h1, h2⟩ := balL_mem e
    unfold hasA at h
    rw [List.any_eq_false] at h
    have := h x hx
    simp [h1, h2] at this
/-- what is kept of them -/
def aftF (s : Bk) (l : List Ln) : Int → Int → Option Int := fun k o => if hasA l k o = true then some (s.bal k o + balL k o l) else none
theorem aftF_nil (s : Bk) : aftF s [] = noF := rfl
theorem aftF_step (s : Bk) {ls : List Ln} {j : Nat} {x : Ln} (h : ls[j]? = some x) (k o : Int) : putF (aftF s (ls.take j)) x.k x.o (s.bal x.k x.o + balL x.k x.o (ls.take j ++ [x])) k o = aftF s (ls.take (j + 1)) k o := by
  have e : ls.take (j + 1) = ls.take j ++ [x] := by rw [List.take_add_one, h]; rfl
  rw [e]
  unfold putF aftF hasA
  by_cases hk : k = x.k ∧ o = x.o
  · obtain ⟨rfl, rfl⟩ := hk
    simp
  · have h1 : ¬ (x.k = k ∧ x.o = o) := fun h => hk ⟨h.1.symm, h.2.symm⟩
    rw [if_neg hk]
    simp only [List.any_append, List.any_cons, List.any_nil, Bool.or_false, decide_eq_false h1, balL_append, balL, if_neg h1, Int.add_zero]
theorem aftF_now (s : Bk) (l : List Ln) (k o : Int) : (if (aftF s l k o).isSome = true then (aftF s l k o).getD 0 else s.bal k o) = s.bal k o + balL k o l := by
  unfold aftF
  cases h : hasA l k o with
  | true => simp
  | false => simp [hasA_no h]
theorem over_step10 (b : Int → Int → Int) {l : List Ln} {j : Nat} {x : Ln} (h : l[j]? = some x) : overL b (l.take j) (l.drop j) = ((decide (¬ in64 (b x.k x.o + balL x.k x.o (l.take j ++ [x]))) || decide (x.v = -9223372036854775808)) || overL b (l.take (j + 1)) (l.drop (j + 1))) := by
  have hj := (List.getElem?_eq_some_iff.1 h)
  obtain ⟨hl, e⟩ := hj
  have e2 : l.take (j + 1) = l.take j ++ [x] := by rw [List.take_add_one, h]; rfl
  rw [List.drop_eq_getElem_cons hl, e, overL, e2]

theorem makeMap10 (n : Int) (w : World) : (Instr.makeMap TMap (some (.int .i64 n))).run Tryd.prog w = .ok (.map (some w.heap.size)) (w.alloc (.map #[] 0)) := by
  simp [Instr.makeMap, run_underlying undMap, asInt, asIntOf, Result.andThen]

section
variable {w : World} {ops : Array Oper} {rest : List Oper} {o : Oper} {a : Act} {Q : Exit → Act → World → Prop} {K : Act → World → Prop} {E : Prop}
/-- a store into such a map, in a list of operations -/
theorem wpList_put10 (hgd : o.guard = none) (mo x v : Operand) (hop : o.op = Op.mapUpdate TMap mo x v) (m n : Nat) (f : Int → Int → Option Int) (hm : a.eval mo = .map (some m)) (h : OwnM m n f w) (hn : n < maxLen) (k1 o1 v1 : Int)
    (hx : a.eval x = accA k1 o1) (hv : a.eval v = .int .i64 v1) (hk : in64 k1) (ho : in64 o1) (hv1 : in64 v1)
    (hK : ∀ w', OwnM m (n + 1) (putF f k1 o1 v1) w' → Only (fun k => k = m) w w' → wpList Tryd.prog ops Q rest (a.put o.dst undef) w') :
    wpList Tryd.prog ops Q (o :: rest) a w := by
  refine wpList_plain hgd fun K' hK' => ?_
  obtain ⟨w', hr, h1, h2⟩ := h.put hn hk ho hv1
  unfold Oper.wp
  simp [execOp, hop, hm, hx, hv, hr, Result.andThen]
  exact hK' _ _ (hK w' h1 h2)
/-- at a step of a region that draws its order -/
theorem step_put10 (hgd : o.guard = none) (mo x v : Operand) (hop : o.op = Op.mapUpdate TMap mo x v) (m n : Nat) (f : Int → Int → Option Int) (hm : a.eval mo = .map (some m)) (h : OwnM m n f w) (hn : n < maxLen) (k1 o1 v1 : Int)
    (hx : a.eval x = accA k1 o1) (hv : a.eval v = .int .i64 v1) (hk : in64 k1) (ho : in64 o1) (hv1 : in64 v1)
    (hK : ∀ w', OwnM m (n + 1) (putF f k1 o1 v1) w' → Only (fun k => k = m) w w' → K (a.put o.dst undef) w') :
    if Region.wanted o (yielded ops a.tmps) = true then Oper.wp Tryd.prog o a w K Q else E := by
  have hw : Region.wanted o (yielded ops a.tmps) = true := by simp [Region.wanted, hgd]
  rw [if_pos hw]
  obtain ⟨w', hr, h1, h2⟩ := h.put hn hk ho hv1
  unfold Oper.wp
  simp [execOp, hop, hm, hx, hv, hr, Result.andThen]
  exact hK w' h1 h2
theorem step_del10 (hgd : o.guard = none) (mo x : Operand) (hop : o.op = Op.call { callee := .builtin .delete, args := #[mo, x], argTypes := #[TMap, TAcc] }) (m n : Nat) (f : Int → Int → Option Int) (hm : a.eval mo = .map (some m)) (h : OwnM m n f w) (k1 o1 : Int)
    (hx : a.eval x = accA k1 o1) (hk : in64 k1) (ho : in64 o1)
    (hK : ∀ w', OwnM m n (delF f k1 o1) w' → Only (fun k => k = m) w w' → K (a.put o.dst (.tuple #[])) w') :
    if Region.wanted o (yielded ops a.tmps) = true then Oper.wp Tryd.prog o a w K Q else E := by
  have hw : Region.wanted o (yielded ops a.tmps) = true := by simp [Region.wanted, hgd]
  rw [if_pos hw]
  obtain ⟨w', hr, h1, h2⟩ := h.del hk ho o.type
  unfold Oper.wp
  simp [execOp, hop, resolve, invoke, builtin, hm, hx, hr, Result.andThen]
  exact hK w' h1 h2
end

/-- the balances behind the first j lines are in a map -/
structure BhAt (w : World) (s : Bk) (ls : List Ln) (j : Nat) (W : World) : Prop where
  mp : OwnM w.heap.size j (aftF s (ls.take j)) W
  below : Below w.heap.size w W
theorem BhAt.up {w : World} {s : Bk} {ls : List Ln} {j : Nat} {W W' : World} (h : BhAt w s ls j W) (hb : Below W.heap.size W W') : BhAt w s ls j W' := ⟨h.mp.up hb, h.below.trans (hb.mono h.below.size)⟩

set_option maxRecDepth 100000 in
set_option maxHeartbeats 8000000 in
theorem behind_any {F : Nat → Prop} {g m : Nat} {v : Value} {es : List En} {s : Bk} {N : Nat} (a : Option Addr) (n c : Nat) (ls : List Ln) (w : World) (H : BAt F g m v es s N (balF s) w) (hl : LinesAt w a n ls) (hok : OkL ls) (hn : n ≤ 1000) :
    Calls Tryd.prog 38 #[.pointer (some ⟨g, 0, none⟩), .slice a n c] w fun e w' => Below w.heap.size w w' ∧
      ((overL s.bal [] ls = false ∧ ∃ q, e = .returned (.tuple #[.map (some q), .nilIface]) ∧ w.heap.size ≤ q ∧ OwnM q n (aftF s ls) w') ∨ (overL s.bal [] ls = true ∧ e = .returned (.tuple #[.map none, errv 3]))) := by
  have r1 := run_neq_errv_nil
  have g1 := guard_neq_errv_nil
  have HLN := Lib.hid hl.1
  have HL := Lib.hid hl
  have HOK := Lib.hid hok
  have HH := Lib.hid H
  clear hl hok H
  go_enter Tryd.func38, Tryd.ntmps38
  have hmm := fun w => makeMap10 (n : Int) w
  have HM0 := Lib.hid (OwnM.made w)
  go_wp2_with fail
  go_loopw [18] (fun i wr => ∃ j : Nat, i = .int .i64 (j : Int) ∧ j ≤ n ∧ Hid (BhAt w s ls j wr) ∧ Hid (overL s.bal (ls.take j) (ls.drop j) = overL s.bal [] ls)) (fun i _ => n - (RowKit.intOf i).toNat)
  case atStart => exact ⟨0, rfl, by omega, ⟨HM0.out, (Below.refl _ _).alloc (Nat.le_refl _) _⟩, rfl⟩
  case round =>
    obtain ⟨j, rfl, hj, hX, hov⟩ := hrel
    by_cases hlt : j < n
    · have u1 : (j : Int) < (n : Int) := by omega
      obtain ⟨q, o, x, rfl, hx, hxm, x0, x1, x2⟩ := (HL.out.up hX.out.below).get hlt
      obtain ⟨W1, hW1⟩ : ∃ W1, W1 = wr.alloc (Obj.cells #[.int .i64 x.k, .int .i64 x.o, .int .i64 x.v] 56) := ⟨_, rfl⟩
      have hA : Below wr.heap.size wr W1 := by rw [hW1]; exact (Below.refl _ _).alloc (Nat.le_refl _) _
      have HBX : Hid (LnBox wr.heap.size x W1) := by rw [hW1]; exact box_new wr x
      have hx64 := HOK.out x hxm
      have HX64 := Lib.hid hx64
      have HST := Lib.hid (aftF_step s hx)
      have HOV := Lib.hid (over_step10 s.bal hx)
      have hnow := aftF_now s (ls.take j) x.k x.o
      replace hX := Lib.hid (hX.out.up hA)
      have H1 := HH.out.up hX.out.below
      obtain ⟨c0, c1⟩ := H1.cells
      obtain ⟨b0, b1, b2⟩ := HBX.out.cells
      have hl1 := hX.out.mp.look_ok hx64.1 hx64.2.1
      have hl2 : ∀ q, (Instr.lookup TMap (.map (some m)) (.agg #[.int .i64 x.k, .int .i64 x.o]) false).run Tryd.prog (W1.drewN q) = .ok (.int .i64 (s.bal x.k x.o)) (W1.drewN q) := fun q => by
        have h := (H1.mp.up (below_drewN (Below.refl _ W1) q)).look hx64.1 hx64.2.1
        rw [balF_get] at h
        exact h
      have HBL : Hid (in64 (s.bal x.k x.o)) := by
        show in64 _
        by_cases h0 : s.bal x.k x.o = 0
        · rw [h0]; unfold in64; omega
        · exact H1.mp.val hx64.1 hx64.2.1 (if_neg h0)
      have HBV : Hid (∀ v, aftF s (ls.take j) x.k x.o = some v → in64 v) := fun v hv => hX.out.mp.val hx64.1 hx64.2.1 hv
      have HXJ := Lib.hid hx
      clear hx hx64 H1 hA
      obtain ⟨B0, hB0⟩ : ∃ B0, s.bal x.k x.o + balL x.k x.o (ls.take j) = B0 := ⟨_, rfl⟩
      have HBS : Hid (s.bal x.k x.o + balL x.k x.o (ls.take j ++ [x]) = B0 + x.v) := by
        show _ = _
        rw [balL_append, ← hB0]
        simp only [balL, and_self, if_true]
        omega
      rw [hB0] at hnow
      have hW2 := hW1.symm
      cases hA : aftF s (ls.take j) x.k x.o with
      | some bv =>
        rw [hA] at hl1 hnow
        simp only [Option.isSome_some, if_true, Option.getD_some] at hl1 hnow
        have hnow' := hnow.symm
        subst hnow'
        have HB0 : Hid (in64 B0) := HBV.out B0 hA
        have HXU := hX
        clear hA hB0 hl2 hW1 hnow
        go_wp2_with fail
        try rw [hW2]
        clear hW2 hl1
        have HXW := Lib.hid (HXU.out)
        have hadd := fun w => add_any B0 x.v HB0.out HX64.out.2.2 w
        with_reducible refine (hadd _).mono ?_
        clear hadd
        rintro e w' ⟨rfl, rfl⟩
        by_cases hin : -9223372036854775808 ≤ B0 + x.v ∧ B0 + x.v ≤ 9223372036854775807
        · obtain ⟨q1, q2⟩ := ov_in hin
          rw [q1, q2]
          by_cases hmin : x.v = -9223372036854775808
          · have HOT : Hid (overL s.bal [] ls = true) := by
              show _ = _
              rw [← hov.out, HOV.out, decide_eq_true hmin]
              simp
            have t1 : (x.v == -9223372036854775808) = true := by simpa using hmin
            clear q1 q2 hin hmin hov
            go_wp2_with fail
            go_ret2
            exact ⟨HXW.out.below, Or.inr ⟨HOT.out, rfl⟩⟩
          · have t1 : (x.v == -9223372036854775808) = false := by simpa using hmin
            have HON : Hid (overL s.bal (ls.take (j + 1)) (ls.drop (j + 1)) = overL s.bal [] ls) := by
              show _ = _
              rw [← hov.out, HOV.out, decide_eq_false hmin, HBS.out, decide_eq_false (fun h => h hin)]
              rfl
            have HSM : Hid (in64 (B0 + x.v)) := hin
            clear q1 q2 hin hmin hov
            go_wp2_with (at_mapUpdate; refine wpList_put10 rfl _ _ _ rfl w.heap.size j _ rfl HXW.out.mp (by unfold maxLen; omega) x.k x.o (B0 + x.v) rfl rfl HX64.out.1 HX64.out.2.1 HSM.out ?_; intro w4 hm4 ho4)
            have HN : Hid (BhAt w s ls (j + 1) w4) := by
              refine ⟨?_, HXW.out.below.trans (ho4.below HXW.out.below.size (fun k hk => by rw [hk]; exact Nat.le_refl _))⟩
              refine hm4.cong fun k o _ _ => ?_
              rw [← HST.out k o, HBS.out]
            clear hm4 ho4
            go_wp2_with fail
            go_roundw
            case rel => exact ⟨j + 1, by go_num, by omega, HN, HON⟩
            case measure => simp [RowKit.intOf]; omega
        · obtain ⟨q1, q2⟩ := ov_out hin
          rw [q1, q2]
          have HOT : Hid (overL s.bal [] ls = true) := by
            have hni : ¬ in64 (B0 + x.v) := fun h => hin h
            show _ = _
            rw [← hov.out, HOV.out, HBS.out, decide_eq_true hni]
            rfl
          clear q1 q2 hin hov
          go_wp2_with fail
          go_ret2
          exact ⟨HXW.out.below, Or.inr ⟨HOT.out, rfl⟩⟩
      | none =>
        rw [hA] at hl1 hnow
        simp only [Option.isSome_none, Bool.false_eq_true, if_false, Option.getD_none] at hl1 hnow
        rw [hnow] at HBL hl2
        have HB0 := HBL
        clear hA hB0 hW1 hnow HBL
        go_wp2_with fail
        try rw [hW2]
        clear hW2 hl1
        go_quiet (fail)
        go_wp2_with fail
        have HXU := Lib.hid (hX.out.up (below_drewN (Below.refl _ W1) nq))
        have HXW := Lib.hid (HXU.out)
        have hadd := fun w => add_any B0 x.v HB0.out HX64.out.2.2 w
        with_reducible refine (hadd _).mono ?_
        clear hadd
        rintro e w' ⟨rfl, rfl⟩
        by_cases hin : -9223372036854775808 ≤ B0 + x.v ∧ B0 + x.v ≤ 9223372036854775807
        · obtain ⟨q1, q2⟩ := ov_in hin
          rw [q1, q2]
          by_cases hmin : x.v = -9223372036854775808
          · have HOT : Hid (overL s.bal [] ls = true) := by
              show _ = _
              rw [← hov.out, HOV.out, decide_eq_true hmin]
              simp
            have t1 : (x.v == -9223372036854775808) = true := by simpa using hmin
            clear q1 q2 hin hmin hov
            go_wp2_with fail
            go_ret2
            exact ⟨HXW.out.below, Or.inr ⟨HOT.out, rfl⟩⟩
          · have t1 : (x.v == -9223372036854775808) = false := by simpa using hmin
            have HON : Hid (overL s.bal (ls.take (j + 1)) (ls.drop (j + 1)) = overL s.bal [] ls) := by
              show _ = _
              rw [← hov.out, HOV.out, decide_eq_false hmin, HBS.out, decide_eq_false (fun h => h hin)]
              rfl
            have HSM : Hid (in64 (B0 + x.v)) := hin
            clear q1 q2 hin hmin hov
            go_wp2_with (at_mapUpdate; refine wpList_put10 rfl _ _ _ rfl w.heap.size j _ rfl HXW.out.mp (by unfold maxLen; omega) x.k x.o (B0 + x.v) rfl rfl HX64.out.1 HX64.out.2.1 HSM.out ?_; intro w4 hm4 ho4)
            have HN : Hid (BhAt w s ls (j + 1) w4) := by
              refine ⟨?_, HXW.out.below.trans (ho4.below HXW.out.below.size (fun k hk => by rw [hk]; exact Nat.le_refl _))⟩
              refine hm4.cong fun k o _ _ => ?_
              rw [← HST.out k o, HBS.out]
            clear hm4 ho4
            go_wp2_with fail
            go_roundw
            case rel => exact ⟨j + 1, by go_num, by omega, HN, HON⟩
            case measure => simp [RowKit.intOf]; omega
        · obtain ⟨q1, q2⟩ := ov_out hin
          rw [q1, q2]
          have HOT : Hid (overL s.bal [] ls = true) := by
            have hni : ¬ in64 (B0 + x.v) := fun h => hin h
            show _ = _
            rw [← hov.out, HOV.out, HBS.out, decide_eq_true hni]
            rfl
          clear q1 q2 hin hov
          go_wp2_with fail
          go_ret2
          exact ⟨HXW.out.below, Or.inr ⟨HOT.out, rfl⟩⟩
    · have u1 : ¬ (j : Int) < (n : Int) := by omega
      obtain rfl : j = n := by omega
      have HOF : Hid (overL s.bal [] ls = false) := by
        show _ = _
        rw [← hov.out, List.drop_eq_nil_of_le (by rw [HLN.out]; exact Nat.le_refl _)]
        rfl
      have HR : Hid (OwnM w.heap.size j (aftF s ls) wr) := by
        have h := hX.out.mp
        rw [List.take_of_length_le (by rw [HLN.out]; exact Nat.le_refl _)] at h
        exact h
      go_wp2_with fail
      go_ret2
      exact ⟨hX.out.below, Or.inl ⟨HOF.out, w.heap.size, rfl, Nat.le_refl _, HR.out⟩⟩
end Go.Proofs.YtcdkgfjjgebcnaaDoor

/- The landed package book: balances let stand. -/
namespace Go.Proofs.YtcdkgfjjgebcnaaDoor
open Go Go.RowKit
set_option linter.unusedVariables false

/-- a map with another one's values over it, but for those that are 0 -/
def mixF (f h : Int → Int → Option Int) : Int → Int → Option Int := fun k o => match h k o with | some v => if v = 0 then none else some v | none => f k o
theorem mixF_post (s : Bk) (l : List Ln) (k o : Int) : mixF (balF s) (aftF s l) k o = balF (s.post l) k o := by
  unfold mixF aftF balF
  rw [bal_post]
  cases h : hasA l k o with
  | true => simp
  | false => simp [hasA_no h]
/-- .. while some are still to come -/
def partF (f h : Int → Int → Option Int) (left : Int → Int → Bool) : Int → Int → Option Int := fun k o => cond (left k o) (f k o) (mixF f h k o)

/-- the range is under way: m is the map that is written, q the one that is read, r its iterator -/
structure StAt (w : World) (m q r c : Nat) (f h : Int → Int → Option Int) (left : Int → Int → Bool) (cnt N : Nat) (W : World) : Prop where
  rg : RangeM q r c h left cnt W
  mp : OwnM m N (partF f h left) W
  ne : m ≠ q ∧ m ≠ r ∧ w.heap.size ≤ r
  ho : Only (fun k => k = m) w W
section
variable {w : World} {m q r c : Nat} {f h : Int → Int → Option Int} {left : Int → Int → Bool} {cnt N : Nat} {W W' : World}
theorem StAt.up (H : StAt w m q r c f h left cnt N W) (hb : Below W.heap.size W W') : StAt w m q r c f h left cnt N W' := ⟨H.rg.up hb, H.mp.up hb, H.ne, H.ho.trans (Only.of_below hb)⟩
theorem StAt.next {k o : Int} {cnt' : Nat} (H : StAt w m q r c f h left cnt N W) (hrg : RangeM q r c h (struck left k o) cnt' W') (ho : Only (fun k => k = r) W W') :
    RangeM q r c h (struck left k o) cnt' W' ∧ OwnM m N (partF f h left) W' ∧ Only (fun k => k = m) w W' := by
  refine ⟨hrg, H.mp.only ho H.ne.2.1, ⟨ho.os.trans H.ho.os, ho.tape.trans H.ho.tape, ho.output.trans H.ho.output, Nat.le_trans H.ho.size ho.size, fun i hi hm => ?_⟩⟩
  have h1 := H.ne.2.2
  rw [ho.block i (Nat.lt_of_lt_of_le hi H.ho.size) (by omega)]
  exact H.ho.block i hi hm
end
theorem part_start (f h : Int → Int → Option Int) (k o : Int) : f k o = partF f h (fun k o => (h k o).isSome) k o := by
  unfold partF mixF
  cases hk : h k o <;> simp [hk]
theorem part_end (f h : Int → Int → Option Int) (left : Int → Int → Bool) (k o : Int) (hl : left k o = false) : partF f h left k o = mixF f h k o := by
  unfold partF
  rw [hl]
  rfl
theorem part_del {f h : Int → Int → Option Int} {left : Int → Int → Bool} {k o : Int} (hh : h k o = some 0) (k' o' : Int) : delF (partF f h left) k o k' o' = partF f h (struck left k o) k' o' := by
  unfold delF partF struck
  by_cases e : k' = k ∧ o' = o
  · obtain ⟨rfl, rfl⟩ := e
    simp [mixF, hh]
  · rw [if_neg e]
    rw [decide_eq_false e, Bool.not_false, Bool.and_true]
theorem part_put {f h : Int → Int → Option Int} {left : Int → Int → Bool} {k o v : Int} (hh : h k o = some v) (hv : v ≠ 0) (k' o' : Int) : putF (partF f h left) k o v k' o' = partF f h (struck left k o) k' o' := by
  unfold putF partF struck
  by_cases e : k' = k ∧ o' = o
  · obtain ⟨rfl, rfl⟩ := e
    simp [mixF, hh, hv]
  · rw [if_neg e]
    rw [decide_eq_false e, Bool.not_false, Bool.and_true]

theorem wpList_range10 {w : World} {ops : Array Oper} {rest : List Oper} {o : Oper} {a : Act} {Q : Exit → Act → World → Prop} (hg : o.guard = none) (mo : Operand) (hop : o.op = Op.range TMap mo) (m n : Nat) (f : Int → Int → Option Int) (hm : a.eval mo = .map (some m)) (h : OwnM m n f w)
    (hK : ∀ w' c, RangeM m w.heap.size n f (fun k o => (f k o).isSome) c w' → c ≤ n → Below w.heap.size w w' → wpList Tryd.prog ops Q rest (a.put o.dst (.pointer (some ⟨w.heap.size, 0, none⟩))) w') :
    wpList Tryd.prog ops Q (o :: rest) a w := by
  refine wpList_plain hg fun K' hK' => ?_
  obtain ⟨w', c, hrun, r1, r2, r3, -⟩ := h.range
  unfold Oper.wp
  simp [execOp, hop, hm, hrun, Result.andThen]
  exact hK' _ _ (hK w' c r1 r2 r3)
theorem wpList_next10 {w : World} {ops : Array Oper} {rest : List Oper} {o : Oper} {a : Act} {Q : Exit → Act → World → Prop} (hg : o.guard = none) (it : Operand) (hop : o.op = Op.next it false) (m r n c : Nat) (f : Int → Int → Option Int) (left : Int → Int → Bool) (hit : a.eval it = .pointer (some ⟨r, 0, none⟩)) (h : RangeM m r n f left c w)
    (hDone : c = 0 → (∀ k o, in64 k → in64 o → left k o = false) → wpList Tryd.prog ops Q rest (a.put o.dst (.tuple #[.bool false])) w)
    (hMore : ∀ (k o' v : Int) (w' : World) (c' : Nat), in64 k → in64 o' → in64 v → left k o' = true → f k o' = some v → RangeM m r n f (struck left k o') c' w' → c' < c → Only (fun k => k = r) w w' →
      (Instr.entry (.pointer (some ⟨r, 0, none⟩))).run Tryd.prog w' = .ok (.tuple #[accA k o', .int .i64 v]) w' → wpList Tryd.prog ops Q rest (a.put o.dst (.tuple #[.bool true, accA k o', .int .i64 v])) w') :
    wpList Tryd.prog ops Q (o :: rest) a w := by
  refine wpList_plain hg fun K' hK' => ?_
  unfold Oper.wp
  rcases h.next o.type with ⟨h0, hl, hrun⟩ | ⟨k, o', v, w', c', hk, ho, hv, hlk, hf, hrun, hrg, hlt, hgr, hen⟩
  · simp [execOp, hop, hit, hrun, Result.andThen]
    exact hK' _ _ (hDone h0 hl)
  · simp [execOp, hop, hit, hrun, Result.andThen]
    exact hK' _ _ (hMore k o' v w' c' hk ho hv hlk hf hrg hlt hgr hen)

set_option maxRecDepth 100000 in
set_option maxHeartbeats 8000000 in
theorem settle_any {g m q N c : Nat} {f h : Int → Int → Option Int} {v : Value} (w : World) (hr : Row g 63 [v, .map (some m)] w) (hm : OwnM m N f w) (hq : OwnM q c h w) (hmq : m ≠ q) (hgm : g ≠ m) (hN : N + c ≤ 1000000) :
    Calls Tryd.prog 39 #[.pointer (some ⟨g, 0, none⟩), .map (some q)] w fun e w' => e = .returned (.tuple #[]) ∧ Only (fun k => k = m) w w' ∧ OwnM m (N + c) (mixF f h) w' := by
  have HR := Lib.hid hr
  have HM := Lib.hid hm
  have HQ := Lib.hid hq
  have HML := Lib.hid hm.lt
  have HNE := Lib.hid hmq
  have HGM := Lib.hid hgm
  clear hr hm hq hmq hgm
  go_enter Tryd.func39, Tryd.ntmps39
  go_wp2_with (at_range; refine wpList_range10 rfl _ rfl q c h rfl HQ.out ?_; intro w1 c1 hrg1 hc1 hb1)
  have HX : Hid (StAt w m q w.heap.size c f h (fun k o => (h k o).isSome) c1 N w1) := by
    exact ⟨hrg1, (HM.out.up hb1).cong fun k o _ _ => part_start f h k o, ⟨HNE.out, by have := HML.out; omega, Nat.le_refl _⟩, Only.of_below hb1⟩
  clear hrg1 hb1
  go_frame
  go_loopw [] (fun wr => ∃ (left : Int → Int → Bool) (cnt N' : Nat), N' + cnt ≤ N + c ∧ Hid (StAt w m q w.heap.size c f h left cnt N' wr)) (fun wr => wr.rangeLeft q w.heap.size)
  case atStart => exact ⟨_, c1, N, by omega, HX⟩
  case round =>
    obtain ⟨left, cnt, N', hN', hX⟩ := hrel
    go_wp2_with (at_next; refine wpList_next10 rfl _ rfl q w.heap.size c cnt h left rfl hX.out.rg ?_ ?_)
    · intro hc0 hl0
      have HE : Hid (OwnM m (N + c) (mixF f h) wr) := (hX.out.mp.mono (by omega)).cong fun k o hk ho => part_end f h left k o (hl0 k o hk ho)
      clear hl0
      go_wp2_with fail
      go_end0
      exact ⟨rfl, hX.out.ho, HE.out⟩
    · intro k o x w2 c2 hk ho hx hlk hf hrg hlt hgr hen
      obtain ⟨g1, g2, g3⟩ := hX.out.next hrg hgr
      obtain ⟨W1, hW1⟩ : ∃ W1, w2.alloc (Obj.cells #[.int .i64 k, .int .i64 o] 24) = W1 := ⟨_, rfl⟩
      have hA : Below w2.heap.size w2 W1 := by rw [← hW1]; exact (Below.refl _ _).alloc (Nat.le_refl _) _
      obtain ⟨bx, hbx⟩ : ∃ bx, w2.heap.size = bx := ⟨_, rfl⟩
      have b0 : W1.cell? ⟨bx, 0, none⟩ = some (.int .i64 k) := by rw [← hW1, ← hbx]; simp
      have b1 : W1.cell? ⟨bx, 1, none⟩ = some (.int .i64 o) := by rw [← hW1, ← hbx]; simp
      have HG := Lib.hid (g1.up hA)
      have HMW : Hid (OwnM m N' (partF f h left) W1.drew) := (g2.up hA).up (Below.refl _ _).drew
      have HO := Lib.hid (g3.trans (Only.of_below hA))
      have hrow := HR.out.only HO.out (fun e => HGM.out e)
      have c1 : W1.cell? ⟨g, 1, none⟩ = some (.map (some m)) := hrow.cell (j := 1) (by simp)
      have HK := Lib.hid (And.intro hk (And.intro ho hx))
      have HF := Lib.hid hf
      have HLT := Lib.hid hlt
      clear hrow g1 g2 g3 hrg hgr hk ho hx hlk hf hA hlt
      by_cases h0 : x = 0
      · subst h0
        go_wp2_with fail
        try rw [hbx]
        try rw [hW1]
        clear hbx hW1
        go_region_law (refine step_del10 rfl (.tmp 18) (.tmp 19) rfl m N' _ (by simp [Act.eval]) HMW.out k o (by simp [Act.eval]) HK.out.1 HK.out.2.1 ?_
                       intro w3 hm3 ho3
                       have HN : Hid (StAt w m q w.heap.size c f h (struck left k o) c2 N' w3) :=
                         ⟨(HG.out.up (Below.refl _ _).drew).only ho3 (fun e => hX.out.ne.1 e.symm) (fun e => hX.out.ne.2.1 e.symm), hm3.cong fun k' o' _ _ => part_del HF.out k' o', hX.out.ne, (HO.out.drew).trans ho3⟩
                       clear hm3 ho3)
        all_goals
          go_wp2_with fail
          have hlt := HLT.out
          exact ⟨⟨_, c2, N', by omega, HN⟩, by rw [HN.out.rg.left_eq, hX.out.rg.left_eq]; exact hlt⟩
      · have t0 : (x == 0) = false := by simpa using h0
        have HX0 := Lib.hid h0
        clear h0
        go_wp2_with fail
        try rw [hbx]
        try rw [hW1]
        clear hbx hW1
        obtain ⟨w3, hr, hm3, ho3⟩ := HMW.out.put (by have h1 := hN'; have h2 := hN; unfold maxLen; omega) HK.out.1 HK.out.2.1 HK.out.2.2
        have HN : Hid (StAt w m q w.heap.size c f h (struck left k o) c2 (N' + 1) w3) :=
          ⟨(HG.out.up (Below.refl _ _).drew).only ho3 (fun e => hX.out.ne.1 e.symm) (fun e => hX.out.ne.2.1 e.symm), hm3.cong fun k' o' _ _ => part_put HF.out HX0.out k' o', hX.out.ne, (HO.out.drew).trans ho3⟩
        clear hm3 ho3
        go_region_law (fail)
        all_goals
          go_wp2_with fail
          have hlt := HLT.out
          exact ⟨⟨_, c2, N' + 1, by omega, HN⟩, by rw [HN.out.rg.left_eq, hX.out.rg.left_eq]; exact hlt⟩
end Go.Proofs.YtcdkgfjjgebcnaaDoor
