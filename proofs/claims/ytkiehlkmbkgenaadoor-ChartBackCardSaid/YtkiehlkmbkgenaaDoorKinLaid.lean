/- That chart's table and what the library reads lie in a world: out of a row's own condition, and of the world's shape. -/
import Derived.Test.YtkiehlkmbkgenaaDoorKin
import Derived.MakeChecks
import Derived.LaidMore
import Derived.Stop.LaidErr
import Derived.Deep.Strs
import Derived.Shelf.Vars
namespace Go.Proofs.YtkiehlkmbkgenaaDoor
open Go Go.RowKit

theorem gKinds : Tryd.prog.globalNamed "trivet/chart.kinds" = some 0 := by kernel_rfl
theorem gKindsType : (Tryd.prog.globals[0]?).map (·.type) = some 42 := by kernel_rfl
theorem gPowType : (Tryd.prog.globals[4]?).map (·.type) = some 81 := by kernel_rfl
theorem gSyn : Tryd.prog.globalNamed "strconv.ErrSyntax" = some 2 := by kernel_rfl
theorem gSynType : (Tryd.prog.globals[2]?).map (·.type) = some 27 := by kernel_rfl
theorem gRng : Tryd.prog.globalNamed "strconv.ErrRange" = some 3 := by kernel_rfl
theorem gRngType : (Tryd.prog.globals[3]?).map (·.type) = some 27 := by kernel_rfl
/-- a row of the table as it is listed -/
def kinRow (k : Nat) : DataW Unit := .agg [.lit (.string (namK k)), .lit (.int .i64 (moK k)), .lit (.bool (deK k))]
def kinData : DataW Unit := .agg ((List.range 13).map kinRow)

theorem kin_row {w : World} {fuel : Nat} {cs : List Value} {p : List MemPlace} (h : DataW.trod (fun _ => ()) Tryd.prog w 0 (fun _ => true) false fuel 42 cs = some (kinData, p)) (k : Nat) (hk : k < 13) :
    cs[3 * k]? = some (.string (strL (namK k))) ∧ cs[3 * k + 1]? = some (.int .i64 (moK k)) ∧ cs[3 * k + 2]? = some (.bool (deK k)) := by
  cases fuel with
  | zero => simp [DataW.trod] at h
  | succ fuel =>
    have hu : Tryd.prog.underlying 42 = some (.array 13 41) := by kernel_rfl
    have hc : Tryd.prog.cellsOf 41 = 3 := by kernel_rfl
    simp only [DataW.trod, hu, hc] at h
    split at h
    · obtain ⟨xs, hm, hx⟩ := Option.map_eq_some_iff.1 h
      obtain ⟨b, hb, hf⟩ := Lib.mapM_at hm k k (by simp [hk])
      have hxs : xs.map (·.1) = (List.range 13).map kinRow := by
        have := congrArg Prod.fst hx
        simpa [kinData] using this
      have hb1 : b.1 = kinRow k := by
        have h1 : (xs.map (·.1))[k]? = some b.1 := by simp [hb]
        rw [hxs] at h1
        simp [hk] at h1
        exact h1.symm
      obtain ⟨ys, n, _, rfl, _, hlen, hg⟩ := DataW.trod_struct Tryd.underlying41 hf
      obtain ⟨y0, y1, y2, rfl⟩ : ∃ y0 y1 y2, ys = [y0, y1, y2] := by
        match ys, hlen with
        | [y0, y1, y2], _ => exact ⟨y0, y1, y2, rfl⟩
      have h0 := hg 0 _ rfl
      have h1 := hg 1 _ rfl
      have h2 := hg 2 _ rfl
      simp only [List.getElem?_cons_zero, List.getElem?_cons_succ] at h0 h1 h2
      clear hg
      obtain ⟨s, e0, rfl, _⟩ := DataW.trod_string (by kernel_rfl) h0
      obtain ⟨i, e1, rfl, _⟩ := DataW.trod_int (k := .i64) (by kernel_rfl) h1
      obtain ⟨d, e2, rfl⟩ := DataW.trod_bool (by kernel_rfl) h2
      simp only [kinRow, List.map_cons, List.map_nil, DataW.agg.injEq, List.cons.injEq, DataW.lit.injEq, Lit.string.injEq, Lit.int.injEq, Lit.bool.injEq, true_and, and_true] at hb1
      obtain ⟨k0, k1, k2⟩ := hb1
      simp only [List.getElem_toArray, List.getElem_cons_zero, List.getElem_cons_succ] at e0 e1 e2
      rw [show Tryd.prog.cellsOf 9 = 1 by kernel_rfl] at e0
      rw [show Tryd.prog.cellsOf 3 = 1 by kernel_rfl] at e1
      rw [show Tryd.prog.cellsOf 4 = 1 by kernel_rfl] at e2
      have f0 := congrArg (·[0]?) e0
      have f1 := congrArg (·[0]?) e1
      have f2 := congrArg (·[0]?) e2
      simp [List.getElem?_drop] at f0 f1 f2
      rw [Nat.mul_comm k 3] at f0 f1 f2
      refine ⟨?_, ?_, ?_⟩
      · rw [f0, ← k0]; simp [strL]
      · rw [f1, k1]
      · rw [f2, k2]
    · cases h

theorem iface_cell {P : Program} {w : World} {fuel : Nat} {t : TypeId} {ms : Array (String × TypeId)} {cs : List Value} {x : DataW Unit × List MemPlace} (ht : P.underlying t = some (.interface ms))
    (h : DataW.trod (fun _ => ()) P w 0 (fun _ => true) false fuel t cs = some x) : ∃ ev, cs[0]? = some ev ∧ (ev = .nilIface ∨ ∃ te pe, ev = .iface te pe) := by
  cases fuel with
  | zero => simp [DataW.trod] at h
  | succ n =>
    unfold DataW.trod at h
    rw [ht] at h
    split at h <;> simp_all

theorem laid_mem {P : Program} {w : World} {n : String} {d : DataW Unit} : ∀ {l : List (String × DataW Unit)} {ps : List MemPlace}, DataW.LaidVars P w l ps → (n, d) ∈ l →
    ∃ g t cs fuel p, P.globalNamed n = some g ∧ (P.globals[g]?).map (·.type) = some t ∧ w.var? P n = some cs ∧ DataW.trod (fun _ => ()) P w 0 (fun _ => true) false fuel t cs.toList = some (d, p)
  | [], _, _, hm => by cases hm
  | (n', d') :: r, ps, h, hm => by
    obtain ⟨g, t, cs, fuel, p, q, h1, h2, h3, h4, h5, _⟩ := h
    rcases List.mem_cons.1 hm with e | hm
    · obtain ⟨rfl, rfl⟩ := Prod.mk.inj e
      exact ⟨g, t, cs, fuel, p, h1, h2, h3, h4⟩
    · exact laid_mem h5 hm

theorem kin_laid {W : World} {l : List (String × DataW Unit)} (h : laidMetH Tryd.prog l W) (hl : (l.all fun x => x.2.handleName?.isNone) = true) (m1 : ("trivet/chart.kinds", kinData) ∈ l)
    (m2 : ("internal/strconv.uint64pow10", Lib.tabData .u64 Lib.pow10Tab) ∈ l) (m3 : ∃ d, ("strconv.ErrSyntax", d) ∈ l) (m4 : ∃ d, ("strconv.ErrRange", d) ∈ l) (sh : W.ShapedOpen Tryd.prog) : Kin W := by
  rw [MakeChecks.laidMetH_plain _ _ _ hl] at h
  obtain ⟨ps, hv, _⟩ := h
  obtain ⟨g, t, cs, fuel, p, hg, ht, hvar, hd⟩ := laid_mem hv m1
  obtain rfl := Option.some.inj (gKinds.symm.trans hg)
  obtain rfl := Option.some.inj (gKindsType.symm.trans ht)
  have hrow := kin_row hd
  have hcell := fun i => World.var?_cell hg hvar i
  obtain ⟨g2, t2, cs2, fuel2, p2, hg2, ht2, hvar2, hd2⟩ := laid_mem hv m2
  obtain rfl := Option.some.inj (gPow.symm.trans hg2)
  obtain rfl := Option.some.inj (gPowType.symm.trans ht2)
  have hT : Lib.TabIs Tryd.prog W "internal/strconv.uint64pow10" .u64 Lib.pow10Tab := by
    unfold Lib.TabIs
    rw [hvar2, ← Lib.cells_of_tab (e := 66) (n := 20) (by kernel_rfl) (by kernel_rfl) (by kernel_rfl) (by kernel_rfl) hd2]
  obtain ⟨d3, m3⟩ := m3
  obtain ⟨g3, t3, cs3, fuel3, p3, hg3, ht3, hvar3, hd3⟩ := laid_mem hv m3
  obtain rfl := Option.some.inj (gSyn.symm.trans hg3)
  obtain rfl := Option.some.inj (gSynType.symm.trans ht3)
  obtain ⟨e3, he3, hk3⟩ := iface_cell (ms := Tryd.prog.methodsAt 27) (by kernel_rfl) hd3
  have hc3 := World.var?_cell hg3 hvar3 0
  obtain ⟨d4, m4⟩ := m4
  obtain ⟨g4, t4, cs4, fuel4, p4, hg4, ht4, hvar4, hd4⟩ := laid_mem hv m4
  obtain rfl := Option.some.inj (gRng.symm.trans hg4)
  obtain rfl := Option.some.inj (gRngType.symm.trans ht4)
  obtain ⟨e4, he4, hk4⟩ := iface_cell (ms := Tryd.prog.methodsAt 27) (by kernel_rfl) hd4
  have hc4 := World.var?_cell hg4 hvar4 0
  have hmax : ∃ m, W.cell? ⟨1, 0, none⟩ = some (.int .i64 m) :=
    cell_of_shapedOpen_int (t := 3) (zero := #[.int .i64 0]) sh (of_decide_eq_true (by kernel_rfl)) (by kernel_rfl) rfl (by kernel_rfl) (by kernel_rfl) (by kernel_rfl)
  have hk0 := (hrow 0 (by omega)).1
  have hp := hT.cell gPow 0 (by decide)
  have q0 : W.cell? ⟨0, 3 * 0, none⟩ = some (.string (strL (namK 0))) := by rw [hcell]; simpa using hk0
  have q3 : W.cell? ⟨2, 0, none⟩ = some e3 := by rw [hc3]; simpa using he3
  have q4 : W.cell? ⟨3, 0, none⟩ = some e4 := by rw [hc4]; simpa using he4
  refine ⟨⟨World.block_lt_of_cell? W _ q0, World.block_lt_of_cell? W _ hmax.choose_spec, World.block_lt_of_cell? W _ q3, World.block_lt_of_cell? W _ q4, World.block_lt_of_cell? W _ hp⟩, fun k hk => ?_, fun k hk => ?_, fun k hk => ?_, hmax, ⟨e3, q3, hk3⟩, ⟨e4, q4, hk4⟩, hT⟩
  · rw [hcell]; simpa using (hrow k hk).1
  · rw [hcell]; simpa using (hrow k hk).2.1
  · rw [hcell]; simpa using (hrow k hk).2.2
end Go.Proofs.YtkiehlkmbkgenaaDoor
