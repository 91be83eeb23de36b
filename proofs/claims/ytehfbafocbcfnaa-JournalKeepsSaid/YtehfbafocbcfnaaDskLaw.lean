/- Laws at an operation: a variable of many cells that is declared and set, copy into a row, clear of a map. -/
import Derived.Test.YtehfbafocbcfnaaDskMap
import Derived.Laws.CopyOwn
import Derived.OwnWalk
import Derived.StillTailTactics
import Derived.Deep.WholeRow
import Derived.Deep.MidRow
namespace Go.Proofs.Ytehfbafocbcfnaa
open Go Go.RowKit Go.Maps
set_option linter.unusedVariables false

section
variable {P : Program} {w : World} {ops : Array Oper} {rest : List Oper} {o o1 o2 : Oper} {a : Act} {Q : Exit → Act → World → Prop}

/-- 'var x T = v', T of many cells -/
theorem wpList_var_agg (g1 : o1.guard = none) (g2 : o2.guard = none) (T : TypeId) (i : Nat) (x : Operand) (h1 : o1.op = Op.alloc T) (hd : o1.dst = some i) (h2 : o2.op = Op.store T (.tmp i) x) (hd2 : o2.dst = none) (hi : i < a.tmps.size)
    (z : Array Value) (k : Nat) (hz : ∀ w, (zeroValue T).run P w = .ok (.agg z) w) (hs : (P.info? T).map (·.size) = some k) (hzk : z.size = k)
    (vs : List Value) (hv : a.eval x = .agg vs.toArray) (hx : (a.put (some i) (.pointer (some ⟨w.heap.size, 0, none⟩))).eval x = a.eval x) (hl : vs.length = k) (hone : ∀ v ∈ vs, v.oneCell' = true)
    (h : wpList P ops Q rest (a.put (some i) (.pointer (some ⟨w.heap.size, 0, none⟩))) (w.alloc (.cells vs.toArray T))) : wpList P ops Q (o1 :: o2 :: rest) a w := by
  have ha : (Instr.alloc T true (.tuple #[])).run P w = .ok (.pointer (some ⟨w.heap.size, 0, none⟩)) (w.alloc (.cells z T)) := by
    simp [Instr.alloc, newVar, newRow, hz, Value.cells, Result.andThen, newObj, Sem.run]
  have hst := run_storeAt_new (P := P) w T z vs.toArray (by rw [hs]; simp [hl]) (by rw [hzk]; simp [hl]) (all_oneCell_toArray hone)
  refine wpList_plain g1 fun K hK => ?_
  unfold Oper.wp
  simp only [execOp, h1, Sem.run_bind, ha, Result.andThen_ok, Sem.run_pure]
  refine hK _ _ ?_
  rw [hd]
  refine wpList_plain g2 fun K' hK' => ?_
  unfold Oper.wp
  have e1 : (a.put (some i) (.pointer (some ⟨w.heap.size, 0, none⟩))).eval (.tmp i) = .pointer (some ⟨w.heap.size, 0, none⟩) := by
    simp [Act.eval, Act.put, hi]
  simp only [execOp, h2, e1, hx, hv, Sem.run_bind, hst, Result.andThen_ok, Sem.run_pure]
  refine hK' _ _ ?_
  rw [hd2]
  exact h

/-- 'copy' into a row that is known whole -/
theorem wpList_copy_only (hgd : o.guard = none) (d s : Operand) (dT sT : TypeId)
    (ho : o.op = .call { callee := .builtin .copy, args := #[d, s], argTypes := #[dT, sT] }) (elem : TypeId) (hu : P.underlying dT = some (.slice elem)) (hsz : (P.info? elem).map (·.size) = some 1)
    (dp sp : Option Addr) (dLen dCap sLen sCap : Nat) (hd : a.eval d = .slice dp dLen dCap) (hs : a.eval s = .slice sp sLen sCap)
    (g off : Nat) (cur : List Value) (t : TypeId) (hg : Row g t cur w) (cs : List Value) (hn : cs.length = Nat.min sLen dLen)
    (hpos : 0 < cs.length → dp = some ⟨g, off, none⟩ ∧ ∃ ad, sp = some ad ∧ ∀ j v, cs[j]? = some v → w.cell? (ad.add j) = some v)
    (hfit : off + cs.length ≤ cur.length) (h1 : ∀ v ∈ cs, v.oneCell' = true)
    (h : ∀ w', Hid (Row g t (splice cur off cs) w') → Hid (Only (fun k => k = g) w w') → wpList P ops Q rest (a.put o.dst (goInt cs.length)) w') : wpList P ops Q (o :: rest) a w := by
  by_cases h0 : cs.length = 0
  · obtain rfl : cs = [] := List.eq_nil_of_length_eq_zero h0
    refine wpList_copy_nothing hgd d s dT sT ho elem hu hsz dp sp dLen dCap sLen sCap hd hs (by simpa using hn.symm) ?_
    exact h w (show Row g t (splice cur off []) w by simpa [splice] using hg) (Only.refl _ _)
  · obtain ⟨rfl, ad, rfl, hsrc⟩ := hpos (by omega)
    refine wpList_copy_own hgd d s dT sT ho elem hu hsz g off dLen dCap ad sLen sCap hd hs cur.toArray t hg cs hn hsrc (by simpa using hfit) h1 ?_
    refine h _ ?_ ?_
    · show Row g t (splice cur off cs) _
      have := setRow_heap w g cur.toArray (splice cur off cs).toArray t (0, 0) hg
      rw [show (cur.toArray.toList) = cur from rfl]
      exact this
    · exact ⟨rfl, rfl, rfl, by simp [World.setRow], fun k hk hf => setRow_other w g k _ (fun e => hf e)⟩

/-- 'clear(m)' -/
theorem wpList_clear_own {H : Type} (hgd : o.guard = none) (m : Operand) (t : TypeId) (ho : o.op = .call { callee := .builtin .clear, args := #[m], argTypes := #[t] })
    (k e : TypeId) (ht : P.underlying t = some (.map k e)) (R : Value → Option (DataW H × List MemPlace)) (b n : Nat) (D : DataW H) (hm : a.eval m = .map (some b)) (hown : w.ownsMap P k R b n D)
    (h : ∀ w', Hid (w'.ownsMap P k R b 0 (.map [])) → Hid (Only (fun k => k = b) w w') → wpList P ops Q rest (a.put o.dst (.tuple #[])) w') : wpList P ops Q (o :: rest) a w := by
  refine wpList_plain hgd fun K hK => ?_
  obtain ⟨w', hrun, r1, r2⟩ := ownsMap_clear hown ht o.type
  unfold Oper.wp
  simp [execOp, ho, resolve, invoke, builtin, hm, hrun, Result.andThen]
  exact hK _ _ (h w' r1 (only_grown r2 rfl))

/-- 'm[k]' -/
theorem wpList_look {H : Type} (hg : o.guard = none) (m x : Operand) (t : TypeId) (hop : o.op = Op.lookup t m x false)
    (k e : TypeId) (K : Keyed P k) (ht : P.underlying t = some (.map k e)) (R : Value → Option (DataW H × List MemPlace)) {z : Value} (hz : (zeroValue e).run P w = .ok z w) (zd : DataW H) (zp : List MemPlace) (hzd : R z = some (zd, zp)) (b n : Nat) (D : DataW H)
    (hm : a.eval m = .map (some b)) (hown : w.ownsMap P k R b n D) (key : Value) (kl : Lit) (hx : a.eval x = key) (hkey : keyOf P k key = some kl)
    (hK : ∀ v ps, R v = some (D.atKey kl zd, ps) → wpList P ops Q rest (a.put o.dst v) w) : wpList P ops Q (o :: rest) a w := by
  refine wpList_plain hg fun K' hK' => ?_
  obtain ⟨v, ps, hrun, hv⟩ := hown.lookup K ht hz hzd hkey
  unfold Oper.wp
  simp [execOp, hop, hm, hx, hrun, Result.andThen]
  exact hK' _ _ (hK v ps hv)

/-- a load of many cells in a region that only reads -/
theorem wpStill_load {Qs : Act → Prop} (hgd : o.guard = none) (ty : TypeId) (x : Operand) (ho : o.op = .load ty x) (v : Value) (hr : (Instr.loadAt ty (a.eval x)).run P w = .ok v w) (h : wpStill P ops w Qs rest (a.put o.dst v)) : wpStill P ops w Qs (o :: rest) a := by
  have hw : Region.wanted o (yielded ops a.tmps) = true := by simp [Region.wanted, hgd]
  show if Region.wanted o (yielded ops a.tmps) = true then _ else _
  rw [if_pos hw]
  unfold Oper.still
  have : (execOp a.eval o).run P w = .ok (.value v) w := by
    simp only [execOp, ho, Sem.run_bind, hr, Result.andThen_ok, Sem.run_pure]
  rw [this, Oper.stillUpon_value]
  exact h
end
end Go.Proofs.Ytehfbafocbcfnaa
