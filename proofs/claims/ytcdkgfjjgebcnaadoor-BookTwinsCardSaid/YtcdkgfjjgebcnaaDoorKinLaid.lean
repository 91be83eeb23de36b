/- That chart's table and what the library reads lie in a world: out of a row's own condition, and of the world's shape. -/
import Derived.Test.YtcdkgfjjgebcnaaDoorKin
import Derived.MakeChecks
import Derived.LaidMore
import Derived.Stop.LaidErr
import Derived.Deep.Strs
import Derived.Shelf.Vars
namespace Go.Proofs.YtcdkgfjjgebcnaaDoor
open Go Go.RowKit

theorem gKinds : Tryd.prog.globalNamed "trivet/chart.kinds" = some 0 := by kernel_rfl
theorem gKindsType : (Tryd.prog.globals[0]?).map (·.type) = some 112 := by kernel_rfl
/-- a row of the table as it is listed -/
def kinRow (k : Nat) : DataW Unit := .agg [.lit (.string (namK k)), .lit (.int .i64 (moK k)), .lit (.bool (deK k))]
def kinData : DataW Unit := .agg ((List.range 13).map kinRow)

theorem kin_row {w : World} {fuel : Nat} {cs : List Value} {p : List MemPlace} (h : DataW.trod (fun _ => ()) Tryd.prog w 0 (fun _ => true) false fuel 112 cs = some (kinData, p)) (k : Nat) (hk : k < 13) :
    cs[3 * k]? = some (.string (strL (namK k))) ∧ cs[3 * k + 1]? = some (.int .i64 (moK k)) ∧ cs[3 * k + 2]? = some (.bool (deK k)) := by
  cases fuel with
  | zero => simp [DataW.trod] at h
  | succ fuel =>
    have hu : Tryd.prog.underlying 112 = some (.array 13 111) := by kernel_rfl
    have hc : Tryd.prog.cellsOf 111 = 3 := by kernel_rfl
    simp only [DataW.trod, hu, hc] at h
    split at h
    · obtain ⟨xs, hm, hx⟩ := Option.map_eq_some_iff.1 h
      obtain ⟨b, hb, hf⟩ := Lib.mapM_at hm k k (by simp [hk])
      have hxs : xs.map (·.1) = (List.range 13).map kinRow := by
        have := congrArg Prod.fst hx
        simpa [kinData] using this
      have hb1 : b.1 = kinRow k := by
        have h1 : (xs.map (·.1))[k]? = some b.1 := by simp [hb]
        rw [hxs] at h1
        simp [hk] at h1
        exact h1.symm
      obtain ⟨ys, n, _, rfl, _, hlen, hg⟩ := DataW.trod_struct Tryd.underlying111 hf
      obtain ⟨y0, y1, y2, rfl⟩ : ∃ y0 y1 y2, ys = [y0, y1, y2] := by
        match ys, hlen with
        | [y0, y1, y2], _ => exact ⟨y0, y1, y2, rfl⟩
      have h0 := hg 0 _ rfl
      have h1 := hg 1 _ rfl
      have h2 := hg 2 _ rfl
      simp only [List.getElem?_cons_zero, List.getElem?_cons_succ] at h0 h1 h2
      clear hg
      obtain ⟨s, e0, rfl, _⟩ := DataW.trod_string (by kernel_rfl) h0
      obtain ⟨i, e1, rfl, _⟩ := DataW.trod_int (k := .i64) (by kernel_rfl) h1
      obtain ⟨d, e2, rfl⟩ := DataW.trod_bool (by kernel_rfl) h2
      simp only [kinRow, List.map_cons, List.map_nil, DataW.agg.injEq, List.cons.injEq, DataW.lit.injEq, Lit.string.injEq, Lit.int.injEq, Lit.bool.injEq, true_and, and_true] at hb1
      obtain ⟨k0, k1, k2⟩ := hb1
      simp only [List.getElem_toArray, List.getElem_cons_zero, List.getElem_cons_succ] at e0 e1 e2
      rw [show Tryd.prog.cellsOf 9 = 1 by kernel_rfl] at e0
      rw [show Tryd.prog.cellsOf 3 = 1 by kernel_rfl] at e1
      rw [show Tryd.prog.cellsOf 4 = 1 by kernel_rfl] at e2
      have f0 := congrArg (·[0]?) e0
      have f1 := congrArg (·[0]?) e1
      have f2 := congrArg (·[0]?) e2
      simp [List.getElem?_drop] at f0 f1 f2
      rw [Nat.mul_comm k 3] at f0 f1 f2
      refine ⟨?_, ?_, ?_⟩
      · rw [f0, ← k0]; simp [strL]
      · rw [f1, k1]
      · rw [f2, k2]
    · cases h

theorem iface_cell {P : Program} {w : World} {fuel : Nat} {t : TypeId} {ms : Array (String × TypeId)} {cs : List Value} {x : DataW Unit × List MemPlace} (ht : P.underlying t = some (.interface ms))
    (h : DataW.trod (fun _ => ()) P w 0 (fun _ => true) false fuel t cs = some x) : ∃ ev, cs[0]? = some ev ∧ (ev = .nilIface ∨ ∃ te pe, ev = .iface te pe) := by
  cases fuel with
  | zero => simp [DataW.trod] at h
  | succ n =>
    unfold DataW.trod at h
    rw [ht] at h
    split at h <;> simp_all

theorem laid_mem {P : Program} {w : World} {n : String} {d : DataW Unit} : ∀ {l : List (String × DataW Unit)} {ps : List MemPlace}, DataW.LaidVars P w l ps → (n, d) ∈ l →
    ∃ g t cs fuel p, P.globalNamed n = some g ∧ (P.globals[g]?).map (·.type) = some t ∧ w.var? P n = some cs ∧ DataW.trod (fun _ => ()) P w 0 (fun _ => true) false fuel t cs.toList = some (d, p)
  | [], _, _, hm => by cases hm
  | (n', d') :: r, ps, h, hm => by
    obtain ⟨g, t, cs, fuel, p, q, h1, h2, h3, h4, h5, _⟩ := h
    rcases List.mem_cons.1 hm with e | hm
    · obtain ⟨rfl, rfl⟩ := Prod.mk.inj e
      exact ⟨g, t, cs, fuel, p, h1, h2, h3, h4⟩
    · exact laid_mem h5 hm

end Go.Proofs.YtcdkgfjjgebcnaaDoor
