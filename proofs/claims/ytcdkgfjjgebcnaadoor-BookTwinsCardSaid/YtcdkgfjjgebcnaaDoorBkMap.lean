/- The landed package book: a map by accounts: how its keys read; what it holds; look up, store, delete, len, range. -/
import Derived.Test.YtcdkgfjjgebcnaaDoorBookNum
import Derived.Test.YtcdkgfjjgebcnaaDoorOnly
import Derived.Maps.RangeWalk
import Derived.DeepKeys4
import Derived.Lib.Hide
namespace Go.Proofs.YtcdkgfjjgebcnaaDoor
open Go Go.RowKit Go.Maps
set_option linter.unusedVariables false

abbrev accA (k o : Int) : Value := .agg #[.int .i64 k, .int .i64 o]
abbrev TAcc : TypeId := 24
abbrev TMap : TypeId := 60
abbrev TVal : TypeId := 2

theorem laidOut10 : laidOutB Tryd.prog = true := by kernel_rfl
theorem accRow : (24 : TypeId) < Tryd.prog.types.size := of_decide_eq_true (by kernel_rfl)
theorem accDeep : Tryd.prog.keyTypeAt 2 24 = true := by kernel_rfl
theorem accLaw0 : WideMaps.KeyLaw Tryd.prog 24 := deep_law_laid laidOut10 (m := 2) (by omega) accRow accDeep (by rw [Tryd.underlying24])
theorem accLaw : Keyed Tryd.prog TAcc := Keyed.of_law accLaw0
theorem accType : Tryd.prog.keyType TAcc = true := by kernel_rfl
theorem accCells : Tryd.prog.cellsOf TAcc = 2 := by kernel_rfl
theorem intCells10 : Tryd.prog.cellsOf 3 = 1 := by kernel_rfl
theorem typesSize : ∃ n, Tryd.prog.types.size + 1 = n + 2 := ⟨Tryd.prog.types.size - 1, by
  have : 1 ≤ Tryd.prog.types.size := of_decide_eq_true (by kernel_rfl)
  omega⟩

/-- an account as a map's key reads -/
def kl (k o : Int) : Lit := .string (keyBytes [.int .i64 k, .int .i64 o])

theorem wf64 {n : Int} (h : in64 n) : (Lit.int .i64 n).wf = true := WalkArith.wf_i64 h
theorem in64_wf {n : Int} (h : (Lit.int .i64 n).wf = true) : in64 n := by
  simp only [Lit.wf, Bool.and_eq_true, decide_eq_true_eq] at h
  have e1 : IntKind.i64.min = -9223372036854775808 := by decide
  have e2 : IntKind.i64.max = 9223372036854775807 := by decide
  rw [e1, e2] at h
  exact h

theorem lits_int (d : Nat) (v : Value) : Tryd.prog.keyLits (d + 1) 3 [v] = (match v with | .int .i64 n => if (Lit.int .i64 n).wf = true then some [.int .i64 n] else none | _ => none) := by
  unfold Program.keyLits
  rw [Tryd.underlying3]
  cases v <;> try rfl
  rename_i q n
  cases q <;> simp

theorem lits_acc (d : Nat) (a b : Value) : Tryd.prog.keyLits (d + 2) TAcc [a, b] = (Tryd.prog.keyLits (d + 1) 3 [a]).bind fun x => (Tryd.prog.keyLits (d + 1) 3 [b]).map fun y => x ++ y := by
  obtain ⟨x, hx⟩ : ∃ x, Tryd.prog.keyLits (d + 1) 3 [a] = x := ⟨_, rfl⟩
  obtain ⟨y, hy⟩ : ∃ y, Tryd.prog.keyLits (d + 1) 3 [b] = y := ⟨_, rfl⟩
  rw [hx, hy]
  unfold Program.keyLits
  rw [Tryd.underlying24]
  simp only [accCells]
  rw [if_pos ⟨rfl, by decide +kernel⟩]
  simp only [List.mapM_cons, List.mapM_nil, intCells10]
  simp only [List.drop_zero, List.drop_succ_cons, List.take_succ_cons, List.take_zero, hx, hy]
  cases x <;> cases y <;> simp

theorem keyOf_eq : ∃ n, ∀ v, keyOf Tryd.prog TAcc v = if v.formed Tryd.prog TAcc = true then (Tryd.prog.keyLits (n + 2) TAcc v.cells.toList).map (fun ls => .string (keyBytes ls)) else none := by
  obtain ⟨n, hn⟩ := typesSize
  refine ⟨n, fun v => ?_⟩
  have e : keyOf Tryd.prog TAcc v = if (Tryd.prog.keyType TAcc && v.formed Tryd.prog TAcc) = true then (Tryd.prog.keyLits (Tryd.prog.types.size + 1) TAcc v.cells.toList).map (fun ls => .string (keyBytes ls)) else none := by
    unfold keyOf
    rw [Tryd.underlying24]
  rw [e, accType, Bool.true_and, hn]
theorem keyOf_acc {k o : Int} (hk : in64 k) (ho : in64 o) : keyOf Tryd.prog TAcc (accA k o) = some (kl k o) := by
  obtain ⟨n, hn⟩ := keyOf_eq
  have hf : (accA k o).formed Tryd.prog TAcc = true := by
    unfold Value.formed
    rw [Tryd.underlying24]
    simp [accCells]
  rw [hn, if_pos hf, show (accA k o).cells.toList = [.int .i64 k, .int .i64 o] from rfl, lits_acc, lits_int, lits_int]
  simp only [wf64 hk, wf64 ho, if_true, Option.bind_some, Option.map_some]
  rfl

theorem formed_two {v : Value} (hf : v.formed Tryd.prog TAcc = true) : ∃ a b, v = .agg #[a, b] := by
  have hs : (match Tryd.prog.underlying TAcc with | some (.struct _) | some (.array _ _) => true | _ => false) = true := by rw [Tryd.underlying24]
  have hc : ∀ cs : Array Value, Value.formed Tryd.prog TAcc (.agg cs) = (cs.size == 2) := fun cs => by
    unfold Value.formed
    rw [Tryd.underlying24, ← accCells]
  have hn : ∀ u : Value, (∀ cs, u ≠ .agg cs) → Value.formed Tryd.prog TAcc u = false := fun u hu => by
    unfold Value.formed
    rw [Tryd.underlying24]
    cases u <;> first | rfl | exact absurd rfl (hu _)
  by_cases hu : ∃ cs, v = .agg cs
  · obtain ⟨cs, rfl⟩ := hu
    rw [hc] at hf
    have h2 : cs.size = 2 := eq_of_beq hf
    clear hf
    obtain ⟨l0⟩ := cs
    match l0, h2 with
    | [a, b], _ => exact ⟨a, b, rfl⟩
  · rw [hn v (fun cs e => hu ⟨cs, e⟩)] at hf
    cases hf
theorem keyOf_acc_inv {v : Value} {l : Lit} (h : keyOf Tryd.prog TAcc v = some l) : ∃ k o, in64 k ∧ in64 o ∧ v = accA k o ∧ l = kl k o := by
  obtain ⟨n, hn⟩ := keyOf_eq
  rw [hn] at h
  by_cases hf : v.formed Tryd.prog TAcc = true
  · rw [if_pos hf] at h
    obtain ⟨a, b, rfl⟩ := formed_two hf
    rw [show (Value.agg #[a, b]).cells.toList = [a, b] from rfl, lits_acc, lits_int, lits_int] at h
    cases a with
    | int qa xa =>
      cases qa <;> try (simp at h; done)
      by_cases ha : (Lit.int .i64 xa).wf = true
      · cases b with
        | int qb xb =>
          cases qb <;> try (simp at h; done)
          by_cases hb : (Lit.int .i64 xb).wf = true
          · simp only [ha, hb, if_true, Option.bind_some, Option.map_some, Option.some.injEq] at h
            exact ⟨xa, xb, in64_wf ha, in64_wf hb, rfl, h.symm⟩
          · simp [ha, hb] at h
        | _ => simp at h
      · simp [ha] at h
    | _ => simp at h
  · rw [if_neg hf] at h
    cases h

theorem kl_inj {k o k' o' : Int} (hk : in64 k) (ho : in64 o) (hk' : in64 k') (ho' : in64 o') (h : kl k o = kl k' o') : k = k' ∧ o = o' := by
  have h1 := keyOf_acc hk ho
  have h2 := keyOf_acc hk' ho'
  rw [h] at h1
  have := accLaw.inj h1 h2
  simp only [accA, Value.agg.injEq, Array.mk.injEq, List.cons.injEq, Value.int.injEq, true_and, and_true] at this
  simpa using this
theorem kl_key (k o : Int) : WideAt.IsKeyLit (kl k o) := by unfold kl; trivial

/-- what a map holds, by accounts -/
def MapOf (D : DataW Unit) (f : Int → Int → Option Int) : Prop := ∀ k o, in64 k → in64 o → (∀ zd, D.atKey (kl k o) zd = match f k o with | some v => .lit (.int .i64 v) | none => zd) ∧ ∀ v, f k o = some v → in64 v

theorem MapOf.has {D : DataW Unit} {f : Int → Int → Option Int} (h : MapOf D f) {k o : Int} (hk : in64 k) (ho : in64 o) : Maps.has D (kl k o) = (f k o).isSome := by
  have h1 := (h k o hk ho).1
  cases hf : f k o with
  | none => rw [hf] at h1; exact has_false_of_atKey h1
  | some v => rw [hf] at h1; exact has_true_of_atKey h1
theorem MapOf.at0 {D : DataW Unit} {f : Int → Int → Option Int} (h : MapOf D f) {k o : Int} (hk : in64 k) (ho : in64 o) : D.atKey (kl k o) (.lit (.int .i64 0)) = .lit (.int .i64 ((f k o).getD 0)) := by
  rw [(h k o hk ho).1]
  cases f k o <;> rfl

def putF (f : Int → Int → Option Int) (k o v : Int) : Int → Int → Option Int := fun k' o' => if k' = k ∧ o' = o then some v else f k' o'
def delF (f : Int → Int → Option Int) (k o : Int) : Int → Int → Option Int := fun k' o' => if k' = k ∧ o' = o then none else f k' o'
def noF : Int → Int → Option Int := fun _ _ => none

theorem MapOf.nil : MapOf (.map []) noF := fun k o _ _ => ⟨fun _ => rfl, fun v h => by cases h⟩
theorem MapOf.put {D : DataW Unit} {f : Int → Int → Option Int} (h : MapOf D f) (hD : IsMap D) {k o v : Int} (hk : in64 k) (ho : in64 o) (hv : in64 v) : MapOf (D.put (kl k o) (.lit (.int .i64 v))) (putF f k o v) := fun k' o' hk' ho' => by
  unfold putF
  by_cases e : k' = k ∧ o' = o
  · rw [if_pos e]
    obtain ⟨rfl, rfl⟩ := e
    exact ⟨fun zd => atKey_put_same hD (kl_key _ _) _ _, fun v' e => by cases e; exact hv⟩
  · rw [if_neg e]
    refine ⟨fun zd => ?_, (h k' o' hk' ho').2⟩
    rw [atKey_put_other (fun e' => e (kl_inj hk' ho' hk ho e'))]
    exact (h k' o' hk' ho').1 zd
theorem MapOf.del {D : DataW Unit} {f : Int → Int → Option Int} (h : MapOf D f) {k o : Int} (hk : in64 k) (ho : in64 o) : MapOf (D.del (kl k o)) (delF f k o) := fun k' o' hk' ho' => by
  unfold delF
  by_cases e : k' = k ∧ o' = o
  · rw [if_pos e]
    obtain ⟨rfl, rfl⟩ := e
    exact ⟨fun zd => atKey_del_same _, fun v' e => by cases e⟩
  · rw [if_neg e]
    refine ⟨fun zd => ?_, (h k' o' hk' ho').2⟩
    rw [atKey_del_other (fun e' => e (kl_inj hk' ho' hk ho e'))]
    exact (h k' o' hk' ho').1 zd

theorem zeroVal (w : World) : (zeroValue TVal).run Tryd.prog w = .ok (.int .i64 0) w := by kernel_rfl
theorem undMap : Tryd.prog.underlying TMap = some (.map TAcc TVal) := Tryd.underlying60
theorem undVal : Tryd.prog.underlying TVal = some (.int .i64) := Tryd.underlying2

/-- a map of at most n entries in block m that holds f -/
def OwnM (m n : Nat) (f : Int → Int → Option Int) (w : World) : Prop := ∃ D : DataW Unit, w.ownsMap Tryd.prog TAcc (plainElem Tryd.prog TVal) m n D ∧ MapOf D f

section
variable {m n : Nat} {f : Int → Int → Option Int} {w w' : World}
theorem OwnM.lt (h : OwnM m n f w) : m < w.heap.size := by obtain ⟨D, h1, _⟩ := h; exact h1.lt
theorem ownsMap_only' {D : DataW Unit} {F : Nat → Prop} (h : w.ownsMap Tryd.prog TAcc (plainElem Tryd.prog TVal) m n D) (ho : Only F w w') (hF : ¬ F m) : w'.ownsMap Tryd.prog TAcc (plainElem Tryd.prog TVal) m n D := by
  have hlt := h.lt
  obtain ⟨es, clock, hb, r⟩ := h
  exact ⟨es, clock, by rw [ho.block m hlt hF]; exact hb, r⟩
theorem OwnM.only {F : Nat → Prop} (h : OwnM m n f w) (ho : Only F w w') (hF : ¬ F m) : OwnM m n f w' := by
  obtain ⟨D, h1, h2⟩ := h
  exact ⟨D, ownsMap_only' h1 ho hF, h2⟩
theorem OwnM.up (h : OwnM m n f w) (hb : Below w.heap.size w w') : OwnM m n f w' := h.only (F := fun _ => False) (Only.of_below hb) id
theorem OwnM.mono {n' : Nat} (h : OwnM m n f w) (hn : n ≤ n') : OwnM m n' f w := by
  obtain ⟨D, h1, h2⟩ := h
  exact ⟨D, h1.mono hn, h2⟩
theorem OwnM.cong {f' : Int → Int → Option Int} (h : OwnM m n f w) (e : ∀ k o, in64 k → in64 o → f k o = f' k o) : OwnM m n f' w := by
  obtain ⟨D, h1, h2⟩ := h
  exact ⟨D, h1, fun k o hk ho => by rw [← e k o hk ho]; exact h2 k o hk ho⟩
theorem only_turned {b : Nat} (h : w.mapTurned w' b) : Only (fun k => k = b) w w' := by
  have g := h.grown
  exact ⟨g.os, g.tape, g.output, g.size, fun i hi hf => g.block i hi fun e => hf (by cases e; rfl)⟩
theorem OwnM.made (w : World) : OwnM w.heap.size 0 noF (w.alloc (.map #[] 0)) := ⟨.map [], World.ownsMap_made w _ _ _, MapOf.nil⟩
theorem OwnM.val {k o v : Int} (h : OwnM m n f w) (hk : in64 k) (ho : in64 o) (hv : f k o = some v) : in64 v := by
  obtain ⟨D, _, h2⟩ := h
  exact (h2 k o hk ho).2 v hv

/-- a look-up -/
theorem OwnM.look (h : OwnM m n f w) {k o : Int} (hk : in64 k) (ho : in64 o) : (Instr.lookup TMap (.map (some m)) (accA k o) false).run Tryd.prog w = .ok (.int .i64 ((f k o).getD 0)) w := by
  obtain ⟨D, h1, h2⟩ := h
  obtain ⟨c, hr, hat, _⟩ := h1.lookup_int accLaw undMap undVal (zeroVal w) (keyOf_acc hk ho)
  rw [h2.at0 hk ho] at hat
  simp only [DataW.lit.injEq, Lit.int.injEq, true_and] at hat
  rw [hat]; exact hr
/-- .. with the word whether it is there -/
theorem OwnM.look_ok (h : OwnM m n f w) {k o : Int} (hk : in64 k) (ho : in64 o) : (Instr.lookup TMap (.map (some m)) (accA k o) true).run Tryd.prog w = .ok (.tuple #[.int .i64 ((f k o).getD 0), .bool (f k o).isSome]) w := by
  obtain ⟨D, h1, h2⟩ := h
  obtain ⟨v, ps, hr, hv⟩ := h1.look_ok accLaw undMap (zeroVal w) (plainElem_int undVal (by decide)) (keyOf_acc hk ho)
  obtain ⟨c, rfl, hc, _⟩ := plainElem_int_inv undVal hv
  have hat := congrArg Prod.fst hc
  simp only at hat
  rw [h2.at0 hk ho] at hat
  simp only [DataW.lit.injEq, Lit.int.injEq, true_and] at hat
  rw [hat, ← h2.has hk ho]; exact hr
/-- a store -/
theorem OwnM.put (h : OwnM m n f w) (hn : n < maxLen) {k o v : Int} (hk : in64 k) (ho : in64 o) (hv : in64 v) : ∃ w', (Instr.mapUpdate TMap (.map (some m)) (accA k o) (.int .i64 v)).run Tryd.prog w = .ok () w' ∧ OwnM m (n + 1) (putF f k o v) w' ∧ Only (fun k => k = m) w w' := by
  obtain ⟨D, h1, h2⟩ := h
  obtain ⟨w', hr, h3, h4⟩ := h1.store accLaw undMap hn (keyOf_acc hk ho) (plainElem_int undVal (wf64 hv))
  exact ⟨w', hr, ⟨_, h3, h2.put h1.isMap hk ho hv⟩, only_turned h4⟩
/-- delete -/
theorem OwnM.del (h : OwnM m n f w) {k o : Int} (hk : in64 k) (ho : in64 o) (ty : TypeId) : ∃ w', (Builtin.delete_ #[TMap, TAcc] ty #[.map (some m), accA k o]).run Tryd.prog w = .ok (.tuple #[]) w' ∧ OwnM m n (delF f k o) w' ∧ Only (fun k => k = m) w w' := by
  obtain ⟨D, h1, h2⟩ := h
  obtain ⟨w', hr, h3, h4⟩ := h1.drop accLaw undMap (keyOf_acc hk ho) ty
  exact ⟨w', hr, ⟨_, h3, h2.del hk ho⟩, only_turned h4⟩
/-- len -/
theorem OwnM.len (h : OwnM m n f w) (ty : TypeId) : ∃ c, c ≤ n ∧ (Builtin.len_ #[TMap] ty #[.map (some m)]).run Tryd.prog w = .ok (.int .i64 ((c : Nat) : Int)) w := by
  obtain ⟨D, h1, h2⟩ := h
  exact ⟨Maps.size D, h1.size_le, h1.len undMap ty⟩
end

/-- a range over a map under way: left: whose turn is still to come; c: how many of them -/
def RangeM (m r n : Nat) (f : Int → Int → Option Int) (left : Int → Int → Bool) (c : Nat) (w : World) : Prop :=
  ∃ (D : DataW Unit) (l : Lit → Bool), w.ranges Tryd.prog TAcc (plainElem Tryd.prog TVal) m r n D l c ∧ MapOf D f ∧ ∀ k o, in64 k → in64 o → left k o = l (kl k o)

/-- one less to come -/
def struck (left : Int → Int → Bool) (k o : Int) : Int → Int → Bool := fun k' o' => left k' o' && !(decide (k' = k ∧ o' = o))

section
variable {m r n c : Nat} {f : Int → Int → Option Int} {left : Int → Int → Bool} {w w' : World}
theorem RangeM.only {F : Nat → Prop} (h : RangeM m r n f left c w) (ho : Only F w w') (h1 : ¬ F m) (h2 : ¬ F r) : RangeM m r n f left c w' := by
  obtain ⟨D, l, h, g1, g2⟩ := h
  have q1 := h.owns.lt
  have q2 := h.lt
  obtain ⟨es, clock, since, seen, c0, hb, F', hs, hD, hr, rest⟩ := h
  exact ⟨D, l, ⟨es, clock, since, seen, c0, (ho.block m q1 h1).trans hb, F', hs, hD, (ho.block r q2 h2).trans hr, rest⟩, g1, g2⟩
theorem RangeM.up (h : RangeM m r n f left c w) (hb : Below w.heap.size w w') : RangeM m r n f left c w' := h.only (F := fun _ => False) (Only.of_below hb) id id
theorem RangeM.owns (h : RangeM m r n f left c w) : OwnM m n f w := by
  obtain ⟨D, l, h, g1, g2⟩ := h
  exact ⟨D, h.owns, g1⟩
theorem RangeM.left_eq (h : RangeM m r n f left c w) : w.rangeLeft m r = c := by
  obtain ⟨D, l, h, g1, g2⟩ := h
  exact h.left_eq
theorem RangeM.lt (h : RangeM m r n f left c w) : r < w.heap.size := by
  obtain ⟨D, l, h, g1, g2⟩ := h
  exact h.lt
theorem OwnM.range (h : OwnM m n f w) : ∃ w' c, (Instr.range TMap (.map (some m))).run Tryd.prog w = .ok (.pointer (some ⟨w.heap.size, 0, none⟩)) w' ∧ RangeM m w.heap.size n f (fun k o => (f k o).isSome) c w' ∧ c ≤ n ∧ Below w.heap.size w w' ∧ w'.heap.size = w.heap.size + 1 := by
  obtain ⟨D, h1, h2⟩ := h
  obtain ⟨w', hr, h3, h4, h5⟩ := h1.range accLaw undMap
  exact ⟨w', Maps.size D, hr, ⟨D, _, h3, h2, fun k o hk ho => (h2.has hk ho).symm⟩, h1.size_le, (Below.refl _ w).grown h4 (Nat.le_refl _) (fun j hj => by cases hj), h5⟩
/-- the step -/
theorem RangeM.next (h : RangeM m r n f left c w) (ty : TypeId) :
    (c = 0 ∧ (∀ k o, in64 k → in64 o → left k o = false) ∧ (Instr.next (.pointer (some ⟨r, 0, none⟩)) false ty).run Tryd.prog w = .ok (.tuple #[.bool false]) w) ∨
    ∃ k o v w' c', in64 k ∧ in64 o ∧ in64 v ∧ left k o = true ∧ f k o = some v ∧ (Instr.next (.pointer (some ⟨r, 0, none⟩)) false ty).run Tryd.prog w = .ok (.tuple #[.bool true, accA k o, .int .i64 v]) w' ∧
      RangeM m r n f (struck left k o) c' w' ∧ c' < c ∧ Only (fun k => k = r) w w' ∧ (Instr.entry (.pointer (some ⟨r, 0, none⟩))).run Tryd.prog w' = .ok (.tuple #[accA k o, .int .i64 v]) w' := by
  obtain ⟨D, l, h, g1, g2⟩ := h
  rcases h.next accLaw ty with ⟨h0, hl, hr⟩ | ⟨key, v, kl', y, w', c', hkey, hlk, hv, hat, hr, hrg, hlt, hgr, hsz, hen⟩
  · exact Or.inl ⟨h0, fun k o hk ho => by rw [g2 k o hk ho]; exact hl _, hr⟩
  · obtain ⟨k, o, hk, ho, rfl, rfl⟩ := keyOf_acc_inv hkey
    obtain ⟨x, rfl, rfl, hx⟩ := plainElem_int_inv undVal hv
    have hf : f k o = some x := by
      have h1 := (g1 k o hk ho).1
      cases hf : f k o with
      | none =>
        rw [hf] at h1
        have h2 := hat (.lit (.int .i64 (x + 1)))
        rw [h1] at h2
        simp only [DataW.lit.injEq, Lit.int.injEq, true_and] at h2
        omega
      | some x' =>
        rw [hf] at h1
        have h2 := hat (.lit (.int .i64 x))
        rw [h1] at h2
        simp only [DataW.lit.injEq, Lit.int.injEq, true_and] at h2
        rw [h2]
    refine Or.inr ⟨k, o, x, w', c', hk, ho, in64_wf hx, by rw [g2 k o hk ho]; exact hlk, hf, hr, ⟨D, _, hrg, g1, fun k' o' hk' ho' => ?_⟩, hlt, ⟨hgr.os, hgr.tape, hgr.output, hgr.size, fun i hi hf => hgr.block i hi fun e => hf (by cases e; rfl)⟩, hen⟩
    show (left k' o' && _) = _
    rw [g2 k' o' hk' ho']
    have hs : (kl k' o').sameKey (kl k o) = decide (k' = k ∧ o' = o) := by
      by_cases e : k' = k ∧ o' = o
      · rw [decide_eq_true e]
        obtain ⟨rfl, rfl⟩ := e
        exact WideAt.sameKey_self (kl_key _ _)
      · rw [sameKey_ne (fun e' => e (kl_inj hk' ho' hk ho e')), decide_eq_false e]
    rw [hs]
end
end Go.Proofs.YtcdkgfjjgebcnaaDoor
