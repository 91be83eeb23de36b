/- The landed package book: the library's contracts at this program: copies of lines, of entries, of a map; lines sorted by accounts. -/
import Derived.Test.YtcdkgfjjgebcnaaDoorBkAt
import Derived.Test.YtcdkgfjjgebcnaaDoorChart2
import Derived.Test.YtcdkgfjjgebcnaaDoorSrt10
namespace Go.Proofs.YtcdkgfjjgebcnaaDoor
open Go Go.RowKit Go.Sort
set_option linter.unusedVariables false

/-- a copy of lines -/
theorem cloneLn_any (a : Option Addr) (n c : Nat) (ls : List Ln) (w : World) (hl : LinesAt w a n ls) (h0 : 1 ≤ n) (hn : n ≤ 1000) :
    Calls Tryd.prog 31 #[.slice a n c] w fun e w' => ∃ v, e = .returned v ∧ OwnsL w.heap.size v ls w' ∧ Below w.heap.size w w' := by
  obtain ⟨i0, hi, hz⟩ := Option.map_eq_some_iff.1 info_ln
  simp only [Prod.mk.injEq] at hz
  obtain ⟨a1, a2, a3⟩ := hz
  have hln := hl.1
  rcases hl.2 with h | ⟨b, off, rfl, -⟩
  · omega
  · refine (AnyE.slices_Clone Tryd.cloneLn i0 _ 3 24 hi a1 a2 a3 rfl (by decide) Tryd.sizeOf56 b off n c (flatL ls) w (by rw [flatL_len, hln]) (by unfold maxLen; omega) (by omega) ?_ (flatL_one ls)).mono ?_
    · intro j u hj
      have := hl.news j u hj
      rwa [Go.WideShapes.add_plain] at this
    · rintro e w' ⟨v, rfl, ho, -, hb⟩
      subst hln
      exact ⟨v, rfl, ho, hb⟩

/-- a copy of entries -/
theorem cloneEn_any (B : Nat) (v : Value) (es : List En) (w : World) (hv : OwnsG GEn B v es w) (hn : es.length ≤ 5000) :
    Calls Tryd.prog 44 #[v] w fun e w' => ∃ v', e = .returned v' ∧ OwnsG GEn w.heap.size v' es w' ∧ Below w.heap.size w w' := by
  obtain ⟨i0, hi, hz⟩ := Option.map_eq_some_iff.1 GEn.hi
  simp only [Prod.mk.injEq] at hz
  obtain ⟨a1, a2, a3⟩ := hz
  obtain ⟨a, c, rfl, h2, h3, h4, h5, h6, h7⟩ := hv.open
  cases a with
  | none =>
    have h0 : es.length = 0 := by
      rcases h2.2 with h | ⟨b, off, h, _⟩
      · exact h
      · cases h
    obtain rfl : es = [] := List.eq_nil_of_length_eq_zero h0
    refine (AnyE.slices_Clone_nil Tryd.cloneEn _ c w).mono ?_
    rintro e w' ⟨rfl, rfl⟩
    exact ⟨_, rfl, ownsG_nil _ _, Below.refl _ _⟩
  | some ad =>
    obtain ⟨g1, g2, g3, g4⟩ := h6 ad rfl
    obtain ⟨bl, of, sp⟩ := ad
    simp only at g2 g3
    subst g2 g3
    refine (AnyE.slices_Clone Tryd.cloneEn i0 _ 2 32 hi a1 a2 a3 rfl (by decide) Tryd.sizeOf71 bl 0 es.length c (flatG GEn es) w (flatG_len GEn es) (by unfold maxLen; omega) (by omega) ?_ (flatG_one GEn es)).mono ?_
    · intro j u hj
      have := h2.news j u hj
      rwa [Go.WideShapes.add_plain] at this
    · rintro e w' ⟨v, rfl, ho, -, hb⟩
      exact ⟨v, rfl, ho, hb⟩

/-- a copy of a map -/
theorem cloneMap_any (m n : Nat) (f : Int → Int → Option Int) (w : World) (h : OwnM m n f w) :
    Calls Tryd.prog 45 #[.map (some m)] w fun e w' => e = .returned (.map (some w.heap.size)) ∧ OwnM w.heap.size n f w' ∧ Below w.heap.size w w' := by
  obtain ⟨D, h1, h2⟩ := h
  refine (AnyW.maps_Clone_owns Tryd.cloneMap TAcc _ m n D w h1).mono ?_
  rintro e w' ⟨rfl, h3, -, hb⟩
  exact ⟨rfl, ⟨D, h3, h2⟩, hb⟩

instance : Inhabited Ln := ⟨⟨0, 0, 0⟩⟩
/-- a line's cells -/
def encLn (x : Ln) : List Value := [.int .i64 x.k, .int .i64 x.o, .int .i64 x.v]
/-- lines by their accounts -/
def cmpLn (x y : Ln) : Int := if LessK x.k x.o y.k y.o then -1 else if LessK y.k y.o x.k x.o then 1 else 0
theorem ltLn (x y : Ln) : ltOf cmpLn x y = decide (LessK x.k x.o y.k y.o) := by
  unfold ltOf cmpLn
  by_cases h1 : LessK x.k x.o y.k y.o
  · simp [h1]
  · by_cases h2 : LessK y.k y.o x.k x.o <;> simp [h1, h2]
theorem swoLn : SWO (ltOf cmpLn) where
  irrefl x := by rw [ltLn]; exact decide_eq_false (by unfold LessK; omega)
  trans x y z h1 h2 := by rw [ltLn, decide_eq_true_iff] at *; unfold LessK at *; omega
  ntrans x y z h1 h2 := by rw [ltLn, decide_eq_false_iff_not] at *; unfold LessK at *; omega


/-- two lines in boxes of their own, and nothing but draws and new blocks beside -/
structure TwoLn (w : World) (x y : Ln) (W : World) : Prop where
  a : W.cell? ⟨w.heap.size, 0, none⟩ = some (.int .i64 x.k) ∧ W.cell? ⟨w.heap.size, 1, none⟩ = some (.int .i64 x.o)
  b : W.cell? ⟨w.heap.size + 1, 0, none⟩ = some (.int .i64 y.k) ∧ W.cell? ⟨w.heap.size + 1, 1, none⟩ = some (.int .i64 y.o)
  gr : GrownTo w W
theorem TwoLn.new (w : World) (x y : Ln) : TwoLn w x y ((w.alloc (Obj.cells #[.int .i64 x.k, .int .i64 x.o, .int .i64 x.v] 56)).alloc (Obj.cells #[.int .i64 y.k, .int .i64 y.o, .int .i64 y.v] 56)) :=
  ⟨⟨by simp, by simp⟩, ⟨by simp, by simp⟩, ((GrownTo.refl w).alloc _).alloc _⟩
theorem TwoLn.call {w : World} {x y : Ln} {W W' : World} (h : TwoLn w x y W) (hb : Below W.heap.size W W') (hg : GrownTo W W') : TwoLn w x y W' :=
  ⟨⟨(hb.cell (p := ⟨w.heap.size, 0, none⟩) (cell_lt h.a.1)).trans h.a.1, (hb.cell (p := ⟨w.heap.size, 1, none⟩) (cell_lt h.a.2)).trans h.a.2⟩, ⟨(hb.cell (p := ⟨w.heap.size + 1, 0, none⟩) (cell_lt h.b.1)).trans h.b.1, (hb.cell (p := ⟨w.heap.size + 1, 1, none⟩) (cell_lt h.b.2)).trans h.b.2⟩, h.gr.trans hg⟩

set_option maxHeartbeats 4000000 in
theorem byAccount_any (x y : Ln) (w : World) : Calls Tryd.prog 35 #[.agg #[.int .i64 x.k, .int .i64 x.o, .int .i64 x.v], .agg #[.int .i64 y.k, .int .i64 y.o, .int .i64 y.v]] w fun e w' => e = .returned (.int .i64 (cmpLn x y)) ∧ GrownTo w w' := by
  have HX := Lib.hid (TwoLn.new w x y)
  have HC : Hid (cmpLn x y = if LessK x.k x.o y.k y.o then -1 else if LessK y.k y.o x.k x.o then 1 else 0) := rfl
  go_enter Tryd.func35, Tryd.ntmps35
  go_wp2_with fail
  refine (less_free x.k x.o y.k y.o _).mono ?_
  rintro e w1 ⟨rfl, hb, hg⟩
  replace HX := Lib.hid (HX.out.call hb hg)
  obtain ⟨a0, a1⟩ := HX.out.a
  obtain ⟨b0, b1⟩ := HX.out.b
  clear hb hg
  by_cases h1 : LessK x.k x.o y.k y.o
  · have HC1 : Hid (cmpLn x y = -1) := by show _ = _; rw [HC.out, if_pos h1]
    simp only [h1, decide_true]
    clear h1
    go_wp2_with fail
    go_ret
    exact ⟨by rw [HC1.out]; rfl, HX.out.gr⟩
  · have HC1 : Hid (cmpLn x y = if LessK y.k y.o x.k x.o then 1 else 0) := by show _ = _; rw [HC.out, if_neg h1]
    simp only [h1, decide_false]
    clear h1
    go_wp2_with fail
    refine (less_free y.k y.o x.k x.o _).mono ?_
    rintro e w2 ⟨rfl, hb, hg⟩
    replace HX := Lib.hid (HX.out.call hb hg)
    clear hb hg a0 a1 b0 b1
    by_cases h2 : LessK y.k y.o x.k x.o
    · have HC2 : Hid (cmpLn x y = 1) := by show _ = _; rw [HC1.out, if_pos h2]
      simp only [h2, decide_true]
      clear h2
      go_wp2_with fail
      go_ret
      exact ⟨by rw [HC2.out]; rfl, HX.out.gr⟩
    · have HC2 : Hid (cmpLn x y = 0) := by show _ = _; rw [HC1.out, if_neg h2]
      simp only [h2, decide_false]
      clear h2
      go_wp2_with fail
      go_ret
      exact ⟨by rw [HC2.out]; rfl, HX.out.gr⟩

theorem cmpLays10 (blk off size : Nat) (w : World) : CmpLays Tryd.prog 35 #[] encLn 3 cmpLn blk off size w :=
  fun _ _ _ _ x y => byAccount_any x y _

theorem only_sorted (g n : Nat) (d : Array Ln) (os : Array Obj) (w : World) : Only (fun k => k = g) w (sortWorldK encLn 3 w g 0 n d os) := by
  refine ⟨rfl, rfl, rfl, ?_, fun k hk hg => ?_⟩
  · show w.heap.size ≤ (grow (putRowK encLn 3 (Sort.ahead w n) g 0 d) os).heap.size
    rw [size_grow]
    simp [putRowK, putRow, mapBlock, Sort.ahead]
  · show (grow (putRowK encLn 3 (Sort.ahead w n) g 0 d) os).heap[k]? = _
    simp only [grow, putRowK, putRow, mapBlock, Sort.ahead]
    rw [Array.getElem?_append_left (by simpa using hk), Array.getElem?_modify, if_neg (fun e => hg e.symm)]

/-- lines sorted by their accounts -/
theorem sort10_any (B : Nat) (v : Value) (ls : List Ln) (w : World) (hv : OwnsL B v ls w) (hn : ls.length ≤ 1000000) :
    Calls Tryd.prog 34 #[v, .func (.func 35) #[] #[]] w fun e w' => e = .returned (.tuple #[]) ∧ Only (fun k => v.ownBlock = some k) w w' ∧ ∃ t, ls.Perm t ∧ t.Pairwise (fun x y => ¬ LessK y.k y.o x.k x.o) ∧ OwnLn B v t w' := by
  obtain ⟨a, c, rfl, h2, h3, h4, h5, h6, h7⟩ := hv.open
  cases a with
  | none =>
    have h0 : ls.length = 0 := by
      rcases h2.2 with h | ⟨b, off, h, _⟩
      · exact h
      · cases h
    obtain rfl : ls = [] := List.eq_nil_of_length_eq_zero h0
    refine (AnyF.slices_SortFunc_none (P := Tryd.prog) (ρ := Tryd.sortLn_ren) { Tryd.sortLn with } none c _ w).mono ?_
    rintro e w' ⟨rfl, rfl⟩
    exact ⟨rfl, Only.refl _ _, [], List.Perm.refl _, List.Pairwise.nil, hv.told⟩
  | some ad =>
    obtain ⟨g1, g2, g3, g4⟩ := h6 ad rfl
    obtain ⟨bl, of, sp⟩ := ad
    simp only at g1 g2 g3 g4
    subst g2 g3
    have hH : HoldsK encLn 3 w bl 0 ls.toArray := fun j hj => by
      rw [size_flatK, List.size_toArray] at hj
      refine ⟨?_, h7 _ _ rfl⟩
      have hd : j / 3 < ls.length := by omega
      rw [Nat.zero_add, get_flatK _ _ _ _ (by rw [List.size_toArray]; exact hj)]
      rcases h2.2 with h | ⟨b, off, e, hc⟩
      · omega
      · cases e
        obtain ⟨q0, q1, q2⟩ := hc (j / 3) _ (List.getElem?_eq_getElem hd)
        rw [Nat.zero_add] at q0 q1 q2
        have e3 : ls.toArray[j / 3]! = ls[j / 3] := by simp [getElem!_pos, hd]
        rw [e3]
        generalize ls[j / 3] = x at q0 q1 q2 ⊢
        obtain ⟨i, hi⟩ : ∃ i, j / 3 = i := ⟨_, rfl⟩
        rw [hi] at q0 q1 q2
        have h5 : j % 3 = 0 ∨ j % 3 = 1 ∨ j % 3 = 2 := by omega
        rcases h5 with h5 | h5 | h5
        · rw [h5, show j = i * 3 by omega]; exact q0
        · rw [h5, show j = i * 3 + 1 by omega]; exact q1
        · rw [h5, show j = i * 3 + 2 by omega]; exact q2
    have eg : ∀ args w, (callFunc 35 args).run Tryd.prog w = .ok (.enter 35 args) w := enters_of Tryd.func35 (by kernel_rfl) rfl
    have hcon := AnyQ.slices_SortFunc Tryd.sortLn 3 Tryd.isAgg56 Tryd.sizeOf56 encLn (fun _ => rfl) (fun x v hv => by simp [encLn] at hv; rcases hv with rfl | rfl | rfl <;> rfl) cmpLn swoLn 35 #[] bl 0 c ls.toArray w eg (cmpLays10 bl 0 ls.toArray.size w) hH g4 (by rw [List.size_toArray]; omega)
    rw [List.size_toArray] at hcon
    refine hcon.mono ?_
    rintro e w' ⟨rfl, d', n, os, hp, hs, rfl⟩
    have hsz : d'.size = ls.length := by rw [hp.1, List.size_toArray]
    have hperm : ls.Perm d'.toList := by
      have h := hp.2.2
      rw [show ls.length = ls.toArray.size from rfl, Array.extract_size] at h
      rw [show d'.extract 0 ls.toArray.size = d' by rw [show ls.toArray.size = d'.size from by rw [hsz]; simp, Array.extract_size]] at h
      exact h.symm
    have hHd := holdsK_sortWorldK encLn 3 w bl 0 n ls.toArray d' os g4 hH (by rw [hsz, List.size_toArray])
    have hlen : d'.toList.length = ls.length := by rw [Array.length_toList, hsz]
    refine ⟨rfl, (only_sorted bl n d' os w).mono fun k _ hk => by rw [hk]; rfl, d'.toList, hperm, ?_, ?_⟩
    · rw [List.pairwise_iff_getElem]
      intro i j hi hj hij
      have h := hs i j (Nat.zero_le _) hij (by rw [← hlen]; exact hj)
      rw [ltLn, decide_eq_false_iff_not] at h
      rw [getElem!_pos d' j (by rw [← Array.length_toList]; exact hj), getElem!_pos d' i (by rw [← Array.length_toList]; exact hi)] at h
      simpa using h
    · refine ⟨some ⟨bl, 0, none⟩, c, by rw [hlen], by rw [hlen]; exact ⟨h3, by unfold maxLen at h4; omega⟩, ⟨rfl, Or.inr ⟨bl, 0, rfl, fun j x hj => ?_⟩⟩, fun x hx => Or.inr ?_⟩
      · have hjl := (List.getElem?_eq_some_iff.1 hj).1
        have hx : d'[j]! = x := by
          rw [getElem!_pos d' j (by rw [← Array.length_toList]; exact hjl)]
          have := (List.getElem?_eq_some_iff.1 hj).2
          simpa using this
        have hc := fun (i : Nat) (hi : i < 3) => HoldsK.cell hHd (i := j) (c := i) (by rw [← Array.length_toList]; exact hjl) hi
        rw [hx] at hc
        refine ⟨?_, ?_, ?_⟩
        · have := (hc 0 (by omega)).1; simpa [encLn] using this
        · have := (hc 1 (by omega)).1; simpa [encLn] using this
        · have := (hc 2 (by omega)).1; simpa [encLn] using this
      · cases hx
        refine ⟨g1, fun i hi => ?_⟩
        exact (hHd i (by rw [size_flatK, ← Array.length_toList]; omega)).2
end Go.Proofs.YtcdkgfjjgebcnaaDoor
