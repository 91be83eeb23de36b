/- Several texts as one (made by merge.py): BkLib, BkRow, BkPost, BkRev, BkClone, BkTrial, Book. -/
import Derived.Test.YtcdkgfjjgebcnaaDoorBkB
import Derived.Test.YtcdkgfjjgebcnaaDoorBkA
import Derived.Test.YtcdkgfjjgebcnaaDoorSrt10
import Derived.Deep.RegionLaw
/- The landed package book: the library's contracts at this program: copies of lines, of entries, of a map; lines sorted by accounts. -/
namespace Go.Proofs.YtcdkgfjjgebcnaaDoor
open Go Go.RowKit Go.Sort
set_option linter.unusedVariables false

/-- a copy of lines -/
theorem cloneLn_any (a : Option Addr) (n c : Nat) (ls : List Ln) (w : World) (hl : LinesAt w a n ls) (h0 : 1 ≤ n) (hn : n ≤ 1000) :
    Calls Tryd.prog 31 #[.slice a n c] w fun e w' => ∃ v, e = .returned v ∧ OwnsL w.heap.size v ls w' ∧ Below w.heap.size w w' := by
  obtain ⟨i0, hi, hz⟩ := Option.map_eq_some_iff.1 info_ln
  simp only [Prod.mk.injEq] at hz
  obtain ⟨a1, a2, a3⟩ := hz
  have hln := hl.1
  rcases hl.2 with h | ⟨b, off, rfl, -⟩
  · omega
  · refine (AnyE.slices_Clone Tryd.cloneLn i0 _ 3 24 hi a1 a2 a3 rfl (by decide) Tryd.sizeOf56 b off n c (flatL ls) w (by rw [flatL_len, hln]) (by unfold maxLen; omega) (by omega) ?_ (flatL_one ls)).mono ?_
    · intro j u hj
      have := hl.news j u hj
      rwa [Go.WideShapes.add_plain] at this
    · rintro e w' ⟨v, rfl, ho, -, hb⟩
      subst hln
      exact ⟨v, rfl, ho, hb⟩

/-- a copy of entries -/
theorem cloneEn_any (B : Nat) (v : Value) (es : List En) (w : World) (hv : OwnsG GEn B v es w) (hn : es.length ≤ 5000) :
    Calls Tryd.prog 44 #[v] w fun e w' => ∃ v', e = .returned v' ∧ OwnsG GEn w.heap.size v' es w' ∧ Below w.heap.size w w' := by
  obtain ⟨i0, hi, hz⟩ := Option.map_eq_some_iff.1 GEn.hi
  simp only [Prod.mk.injEq] at hz
  obtain ⟨a1, a2, a3⟩ := hz
  obtain ⟨a, c, rfl, h2, h3, h4, h5, h6, h7⟩ := hv.open
  cases a with
  | none =>
    have h0 : es.length = 0 := by
      rcases h2.2 with h | ⟨b, off, h, _⟩
      · exact h
      · cases h
    obtain rfl : es = [] := List.eq_nil_of_length_eq_zero h0
    refine (AnyE.slices_Clone_nil Tryd.cloneEn _ c w).mono ?_
    rintro e w' ⟨rfl, rfl⟩
    exact ⟨_, rfl, ownsG_nil _ _, Below.refl _ _⟩
  | some ad =>
    obtain ⟨g1, g2, g3, g4⟩ := h6 ad rfl
    obtain ⟨bl, of, sp⟩ := ad
    simp only at g2 g3
    subst g2 g3
    refine (AnyE.slices_Clone Tryd.cloneEn i0 _ 2 32 hi a1 a2 a3 rfl (by decide) Tryd.sizeOf71 bl 0 es.length c (flatG GEn es) w (flatG_len GEn es) (by unfold maxLen; omega) (by omega) ?_ (flatG_one GEn es)).mono ?_
    · intro j u hj
      have := h2.news j u hj
      rwa [Go.WideShapes.add_plain] at this
    · rintro e w' ⟨v, rfl, ho, -, hb⟩
      exact ⟨v, rfl, ho, hb⟩

/-- a copy of a map -/
theorem cloneMap_any (m n : Nat) (f : Int → Int → Option Int) (w : World) (h : OwnM m n f w) :
    Calls Tryd.prog 45 #[.map (some m)] w fun e w' => e = .returned (.map (some w.heap.size)) ∧ OwnM w.heap.size n f w' ∧ Below w.heap.size w w' := by
  obtain ⟨D, h1, h2⟩ := h
  refine (AnyW.maps_Clone_owns Tryd.cloneMap TAcc _ m n D w h1).mono ?_
  rintro e w' ⟨rfl, h3, -, hb⟩
  exact ⟨rfl, ⟨D, h3, h2⟩, hb⟩

instance : Inhabited Ln := ⟨⟨0, 0, 0⟩⟩
/-- a line's cells -/
def encLn (x : Ln) : List Value := [.int .i64 x.k, .int .i64 x.o, .int .i64 x.v]
/-- lines by their accounts -/
def cmpLn (x y : Ln) : Int := if LessK x.k x.o y.k y.o then -1 else if LessK y.k y.o x.k x.o then 1 else 0
theorem ltLn (x y : Ln) : ltOf cmpLn x y = decide (LessK x.k x.o y.k y.o) := by
  unfold ltOf cmpLn
  by_cases h1 : LessK x.k x.o y.k y.o
  · simp [h1]
  · by_cases h2 : LessK y.k y.o x.k x.o <;> simp [h1, h2]
theorem swoLn : SWO (ltOf cmpLn) where
  irrefl x := by rw [ltLn]; exact decide_eq_false (by unfold LessK; omega)
  trans x y z h1 h2 := by rw [ltLn, decide_eq_true_iff] at *; unfold LessK at *; omega
  ntrans x y z h1 h2 := by rw [ltLn, decide_eq_false_iff_not] at *; unfold LessK at *; omega


/-- two lines in boxes of their own, and nothing but draws and new blocks beside -/
structure TwoLn (w : World) (x y : Ln) (W : World) : Prop where
  a : W.cell? ⟨w.heap.size, 0, none⟩ = some (.int .i64 x.k) ∧ W.cell? ⟨w.heap.size, 1, none⟩ = some (.int .i64 x.o)
  b : W.cell? ⟨w.heap.size + 1, 0, none⟩ = some (.int .i64 y.k) ∧ W.cell? ⟨w.heap.size + 1, 1, none⟩ = some (.int .i64 y.o)
  gr : GrownTo w W
theorem TwoLn.new (w : World) (x y : Ln) : TwoLn w x y ((w.alloc (Obj.cells #[.int .i64 x.k, .int .i64 x.o, .int .i64 x.v] 56)).alloc (Obj.cells #[.int .i64 y.k, .int .i64 y.o, .int .i64 y.v] 56)) :=
  ⟨⟨by simp, by simp⟩, ⟨by simp, by simp⟩, ((GrownTo.refl w).alloc _).alloc _⟩
theorem TwoLn.call {w : World} {x y : Ln} {W W' : World} (h : TwoLn w x y W) (hb : Below W.heap.size W W') (hg : GrownTo W W') : TwoLn w x y W' :=
  ⟨⟨(hb.cell (p := ⟨w.heap.size, 0, none⟩) (cell_lt h.a.1)).trans h.a.1, (hb.cell (p := ⟨w.heap.size, 1, none⟩) (cell_lt h.a.2)).trans h.a.2⟩, ⟨(hb.cell (p := ⟨w.heap.size + 1, 0, none⟩) (cell_lt h.b.1)).trans h.b.1, (hb.cell (p := ⟨w.heap.size + 1, 1, none⟩) (cell_lt h.b.2)).trans h.b.2⟩, h.gr.trans hg⟩

set_option maxHeartbeats 4000000 in
theorem byAccount_any (x y : Ln) (w : World) : Calls Tryd.prog 35 #[.agg #[.int .i64 x.k, .int .i64 x.o, .int .i64 x.v], .agg #[.int .i64 y.k, .int .i64 y.o, .int .i64 y.v]] w fun e w' => e = .returned (.int .i64 (cmpLn x y)) ∧ GrownTo w w' := by
  have HX := Lib.hid (TwoLn.new w x y)
  have HC : Hid (cmpLn x y = if LessK x.k x.o y.k y.o then -1 else if LessK y.k y.o x.k x.o then 1 else 0) := rfl
  go_enter Tryd.func35, Tryd.ntmps35
  go_wp2_with fail
  refine (less_free x.k x.o y.k y.o _).mono ?_
  rintro e w1 ⟨rfl, hb, hg⟩
  replace HX := Lib.hid (HX.out.call hb hg)
  obtain ⟨a0, a1⟩ := HX.out.a
  obtain ⟨b0, b1⟩ := HX.out.b
  clear hb hg
  by_cases h1 : LessK x.k x.o y.k y.o
  · have HC1 : Hid (cmpLn x y = -1) := by show _ = _; rw [HC.out, if_pos h1]
    simp only [h1, decide_true]
    clear h1
    go_wp2_with fail
    go_ret
    exact ⟨by rw [HC1.out]; rfl, HX.out.gr⟩
  · have HC1 : Hid (cmpLn x y = if LessK y.k y.o x.k x.o then 1 else 0) := by show _ = _; rw [HC.out, if_neg h1]
    simp only [h1, decide_false]
    clear h1
    go_wp2_with fail
    refine (less_free y.k y.o x.k x.o _).mono ?_
    rintro e w2 ⟨rfl, hb, hg⟩
    replace HX := Lib.hid (HX.out.call hb hg)
    clear hb hg a0 a1 b0 b1
    by_cases h2 : LessK y.k y.o x.k x.o
    · have HC2 : Hid (cmpLn x y = 1) := by show _ = _; rw [HC1.out, if_pos h2]
      simp only [h2, decide_true]
      clear h2
      go_wp2_with fail
      go_ret
      exact ⟨by rw [HC2.out]; rfl, HX.out.gr⟩
    · have HC2 : Hid (cmpLn x y = 0) := by show _ = _; rw [HC1.out, if_neg h2]
      simp only [h2, decide_false]
      clear h2
      go_wp2_with fail
      go_ret
      exact ⟨by rw [HC2.out]; rfl, HX.out.gr⟩

theorem cmpLays10 (blk off size : Nat) (w : World) : CmpLays Tryd.prog 35 #[] encLn 3 cmpLn blk off size w :=
  fun _ _ _ _ x y => byAccount_any x y _

theorem only_sorted (g n : Nat) (d : Array Ln) (os : Array Obj) (w : World) : Only (fun k => k = g) w (sortWorldK encLn 3 w g 0 n d os) := by
  refine ⟨rfl, rfl, rfl, ?_, fun k hk hg => ?_⟩
  · show w.heap.size ≤ (grow (putRowK encLn 3 (Sort.ahead w n) g 0 d) os).heap.size
    rw [size_grow]
    simp [putRowK, putRow, mapBlock, Sort.ahead]
  · show (grow (putRowK encLn 3 (Sort.ahead w n) g 0 d) os).heap[k]? = _
    simp only [grow, putRowK, putRow, mapBlock, Sort.ahead]
    rw [Array.getElem?_append_left (by simpa using hk), Array.getElem?_modify, if_neg (fun e => hg e.symm)]

/-- lines sorted by their accounts -/
theorem sort10_any (B : Nat) (v : Value) (ls : List Ln) (w : World) (hv : OwnsL B v ls w) (hn : ls.length ≤ 1000000) :
    Calls Tryd.prog 34 #[v, .func (.func 35) #[] #[]] w fun e w' => e = .returned (.tuple #[]) ∧ Only (fun k => v.ownBlock = some k) w w' ∧ ∃ t, ls.Perm t ∧ t.Pairwise (fun x y => ¬ LessK y.k y.o x.k x.o) ∧ OwnLn B v t w' := by
  obtain ⟨a, c, rfl, h2, h3, h4, h5, h6, h7⟩ := hv.open
  cases a with
  | none =>
    have h0 : ls.length = 0 := by
      rcases h2.2 with h | ⟨b, off, h, _⟩
      · exact h
      · cases h
    obtain rfl : ls = [] := List.eq_nil_of_length_eq_zero h0
    refine (AnyF.slices_SortFunc_none (P := Tryd.prog) (ρ := Tryd.sortLn_ren) { Tryd.sortLn with } none c _ w).mono ?_
    rintro e w' ⟨rfl, rfl⟩
    exact ⟨rfl, Only.refl _ _, [], List.Perm.refl _, List.Pairwise.nil, hv.told⟩
  | some ad =>
    obtain ⟨g1, g2, g3, g4⟩ := h6 ad rfl
    obtain ⟨bl, of, sp⟩ := ad
    simp only at g1 g2 g3 g4
    subst g2 g3
    have hH : HoldsK encLn 3 w bl 0 ls.toArray := fun j hj => by
      rw [size_flatK, List.size_toArray] at hj
      refine ⟨?_, h7 _ _ rfl⟩
      have hd : j / 3 < ls.length := by omega
      rw [Nat.zero_add, get_flatK _ _ _ _ (by rw [List.size_toArray]; exact hj)]
      rcases h2.2 with h | ⟨b, off, e, hc⟩
      · omega
      · cases e
        obtain ⟨q0, q1, q2⟩ := hc (j / 3) _ (List.getElem?_eq_getElem hd)
        rw [Nat.zero_add] at q0 q1 q2
        have e3 : ls.toArray[j / 3]! = ls[j / 3] := by simp [getElem!_pos, hd]
        rw [e3]
        generalize ls[j / 3] = x at q0 q1 q2 ⊢
        obtain ⟨i, hi⟩ : ∃ i, j / 3 = i := ⟨_, rfl⟩
        rw [hi] at q0 q1 q2
        have h5 : j % 3 = 0 ∨ j % 3 = 1 ∨ j % 3 = 2 := by omega
        rcases h5 with h5 | h5 | h5
        · rw [h5, show j = i * 3 by omega]; exact q0
        · rw [h5, show j = i * 3 + 1 by omega]; exact q1
        · rw [h5, show j = i * 3 + 2 by omega]; exact q2
    have eg : ∀ args w, (callFunc 35 args).run Tryd.prog w = .ok (.enter 35 args) w := enters_of Tryd.func35 (by kernel_rfl) rfl
    have hcon := AnyQ.slices_SortFunc Tryd.sortLn 3 Tryd.isAgg56 Tryd.sizeOf56 encLn (fun _ => rfl) (fun x v hv => by simp [encLn] at hv; rcases hv with rfl | rfl | rfl <;> rfl) cmpLn swoLn 35 #[] bl 0 c ls.toArray w eg (cmpLays10 bl 0 ls.toArray.size w) hH g4 (by rw [List.size_toArray]; omega)
    rw [List.size_toArray] at hcon
    refine hcon.mono ?_
    rintro e w' ⟨rfl, d', n, os, hp, hs, rfl⟩
    have hsz : d'.size = ls.length := by rw [hp.1, List.size_toArray]
    have hperm : ls.Perm d'.toList := by
      have h := hp.2.2
      rw [show ls.length = ls.toArray.size from rfl, Array.extract_size] at h
      rw [show d'.extract 0 ls.toArray.size = d' by rw [show ls.toArray.size = d'.size from by rw [hsz]; simp, Array.extract_size]] at h
      exact h.symm
    have hHd := holdsK_sortWorldK encLn 3 w bl 0 n ls.toArray d' os g4 hH (by rw [hsz, List.size_toArray])
    have hlen : d'.toList.length = ls.length := by rw [Array.length_toList, hsz]
    refine ⟨rfl, (only_sorted bl n d' os w).mono fun k _ hk => by rw [hk]; rfl, d'.toList, hperm, ?_, ?_⟩
    · rw [List.pairwise_iff_getElem]
      intro i j hi hj hij
      have h := hs i j (Nat.zero_le _) hij (by rw [← hlen]; exact hj)
      rw [ltLn, decide_eq_false_iff_not] at h
      rw [getElem!_pos d' j (by rw [← Array.length_toList]; exact hj), getElem!_pos d' i (by rw [← Array.length_toList]; exact hi)] at h
      simpa using h
    · refine ⟨some ⟨bl, 0, none⟩, c, by rw [hlen], by rw [hlen]; exact ⟨h3, by unfold maxLen at h4; omega⟩, ⟨rfl, Or.inr ⟨bl, 0, rfl, fun j x hj => ?_⟩⟩, fun x hx => Or.inr ?_⟩
      · have hjl := (List.getElem?_eq_some_iff.1 hj).1
        have hx : d'[j]! = x := by
          rw [getElem!_pos d' j (by rw [← Array.length_toList]; exact hjl)]
          have := (List.getElem?_eq_some_iff.1 hj).2
          simpa using this
        have hc := fun (i : Nat) (hi : i < 3) => HoldsK.cell hHd (i := j) (c := i) (by rw [← Array.length_toList]; exact hjl) hi
        rw [hx] at hc
        refine ⟨?_, ?_, ?_⟩
        · have := (hc 0 (by omega)).1; simpa [encLn] using this
        · have := (hc 1 (by omega)).1; simpa [encLn] using this
        · have := (hc 2 (by omega)).1; simpa [encLn] using this
      · cases hx
        refine ⟨g1, fun i hi => ?_⟩
        exact (hHd i (by rw [size_flatK, ← Array.length_toList]; omega)).2
end Go.Proofs.YtcdkgfjjgebcnaaDoor

/- The landed package book: rows of the call's own, written in the middle; an entry's lines told; lines with their signs turned. -/
namespace Go.Proofs.YtcdkgfjjgebcnaaDoor
open Go Go.RowKit
set_option linter.unusedVariables false

theorem ownsRow_set {w : World} {base : Nat} {e : TypeId} {size : Nat} {v : Value} {n : Nat} {xs : List Value} (h : w.ownsRow base e size v n xs) {g i : Nat} (hv : v.ownBlock = some g) (u : Value) : (w.setCell ⟨g, i, none⟩ u).ownsRow base e size v n (xs.set i u) := by
  obtain ⟨h1, h2⟩ := h
  refine ⟨by rw [List.length_set]; exact h1, ?_⟩
  rcases h2 with ⟨rfl, _⟩ | ⟨g', cap, cur, rfl, hB, hh, hc, hm, hs, ht⟩
  · cases hv
  · cases hv
    refine Or.inr ⟨g', cap, cur.setIfInBounds i u, rfl, hB, ?_, hc, hm, by simpa using hs, ?_⟩
    · simp only [World.setCell, Array.getElem?_modify, if_pos, hh]
      simp
    · rw [Array.toList_setIfInBounds, ← ht, List.take_set]

theorem flatL_setV {l : List Ln} {j : Nat} {x : Ln} (h : l[j]? = some x) (v : Int) : flatL (l.set j ⟨x.k, x.o, v⟩) = (flatL l).set (j * 3 + 2) (.int .i64 v) := by
  induction l generalizing j with
  | nil => simp at h
  | cons a l ih =>
    cases j with
    | zero => simp only [List.getElem?_cons_zero, Option.some.injEq] at h; subst h; rfl
    | succ j =>
      simp only [List.getElem?_cons_succ] at h
      have e : (j + 1) * 3 + 2 = j * 3 + 2 + 1 + 1 + 1 := by omega
      rw [e]
      simp only [List.set_cons_succ, flatL, ih h]
theorem flatE_cons (a : En) (l : List En) : flatG GEn (a :: l) = .slice a.a a.n a.c :: .bool a.d :: flatG GEn l := rfl
theorem flatE_setD {l : List En} {j : Nat} {x : En} (h : l[j]? = some x) (d : Bool) : flatG GEn (l.set j ⟨x.a, x.n, x.c, d⟩) = (flatG GEn l).set (j * 2 + 1) (.bool d) := by
  induction l generalizing j with
  | nil => simp at h
  | cons a l ih =>
    cases j with
    | zero => simp only [List.getElem?_cons_zero, Option.some.injEq] at h; subst h; rfl
    | succ j =>
      simp only [List.getElem?_cons_succ] at h
      have e : (j + 1) * 2 + 1 = j * 2 + 1 + 1 + 1 := by omega
      rw [e]
      simp only [List.set_cons_succ, flatE_cons, ih h]
theorem flatE_setL {l : List En} {j : Nat} {x : En} (h : l[j]? = some x) (a : Option Addr) (n c : Nat) : flatG GEn (l.set j ⟨a, n, c, x.d⟩) = (flatG GEn l).set (j * 2) (.slice a n c) := by
  induction l generalizing j with
  | nil => simp at h
  | cons a' l ih =>
    cases j with
    | zero => simp only [List.getElem?_cons_zero, Option.some.injEq] at h; subst h; rfl
    | succ j =>
      simp only [List.getElem?_cons_succ] at h
      have e : (j + 1) * 2 = j * 2 + 1 + 1 := by omega
      rw [e]
      simp only [List.set_cons_succ, flatE_cons, ih h]

theorem ownsL_setV {B : Nat} {v : Value} {ls : List Ln} {w : World} (h : OwnsL B v ls w) {g : Nat} (hv : v.ownBlock = some g) {j : Nat} {x : Ln} (hx : ls[j]? = some x) (y : Int) : OwnsL B v (ls.set j ⟨x.k, x.o, y⟩) (w.setCell ⟨g, j * 3 + 2, none⟩ (.int .i64 y)) := by
  have h1 := ownsRow_set h hv (i := j * 3 + 2) (.int .i64 y)
  unfold OwnsL
  rw [flatL_setV hx, List.length_set]
  exact h1
theorem ownsE_setD {B : Nat} {v : Value} {es : List En} {w : World} (h : OwnsG GEn B v es w) {g : Nat} (hv : v.ownBlock = some g) {j : Nat} {x : En} (hx : es[j]? = some x) (d : Bool) : OwnsG GEn B v (es.set j ⟨x.a, x.n, x.c, d⟩) (w.setCell ⟨g, j * 2 + 1, none⟩ (.bool d)) := by
  have h1 := ownsRow_set h hv (i := j * 2 + 1) (.bool d)
  unfold OwnsG
  rw [flatE_setD hx, List.length_set]
  exact h1
theorem ownsE_setL {B : Nat} {v : Value} {es : List En} {w : World} (h : OwnsG GEn B v es w) {g : Nat} (hv : v.ownBlock = some g) {j : Nat} {x : En} (hx : es[j]? = some x) (a : Option Addr) (n c : Nat) : OwnsG GEn B v (es.set j ⟨a, n, c, x.d⟩) (w.setCell ⟨g, j * 2, none⟩ (.slice a n c)) := by
  have h1 := ownsRow_set h hv (i := j * 2) (.slice a n c)
  unfold OwnsG
  rw [flatE_setL hx, List.length_set]
  exact h1

set_option maxHeartbeats 4000000 in
theorem entry10_any {F : Nat → Prop} {g m : Nat} {v : Value} {es : List En} {s : Bk} {N : Nat} {f : Int → Int → Option Int} (n : Int) (w : World) (H : BAt F g m v es s N f w) (hn : in64 n) :
    Calls Tryd.prog 13 #[.pointer (some ⟨g, 0, none⟩), .int .i64 n] w fun e w' => Below w.heap.size w w' ∧
      ((0 ≤ n ∧ n < (s.L.length : Int) ∧ ∃ v, e = .returned (.tuple #[v, .nilIface]) ∧ OwnLn w.heap.size v (s.L.getD n.toNat []) w') ∨
        ((n < 0 ∨ (s.L.length : Int) ≤ n) ∧ ∃ a c, e = .returned (.tuple #[.slice a 0 c, errv 4]))) := by
  have hst := stands_any n w H hn
  by_cases h : 0 ≤ n ∧ n < (s.L.length : Int)
  · rw [show standsN s n = true from decide_eq_true h] at hst
    obtain ⟨h1, h2⟩ := h
    obtain ⟨j, rfl⟩ : ∃ j : Nat, n = (j : Int) := ⟨n.toNat, by omega⟩
    obtain ⟨q, c, x, ls, rfl, -, -, -, hx, hl, hm, hd, hxn, hla, -, -, -, e0, -⟩ := H.entry (j := j) (by omega)
    obtain ⟨c0, c1⟩ := H.cells
    have hok := H.ok ls hm
    have hcl := cloneLn_any x.a x.n x.c ls w hla (by rw [hxn]; exact hok.1) (by rw [hxn]; have := hok.2.1; omega)
    have HE : Hid (s.L.getD ((j : Int)).toNat [] = ls) := by show _ = _; rw [Int.toNat_natCast]; simp [List.getD, hl]
    obtain ⟨xa, xn, xc, xd⟩ := x
    simp only at hcl e0
    clear H hx hl hm hd hxn hla hok hn
    go_enter Tryd.func13, Tryd.ntmps13
    go_wp2_with fail
    refine hst.mono ?_
    rintro e w1 ⟨rfl, rfl⟩
    go_wp2_with fail
    refine hcl.mono ?_
    rintro e w2 ⟨v, rfl, ho, hb⟩
    go_wp2_with fail
    go_ret2
    exact ⟨hb, Or.inl ⟨h1, h2, v, rfl, by rw [HE.out]; exact ho.told⟩⟩
  · rw [show standsN s n = false from decide_eq_false h] at hst
    have HN : Hid (n < 0 ∨ (s.L.length : Int) ≤ n) := by show _ ∨ _; omega
    clear H hn h
    go_enter Tryd.func13, Tryd.ntmps13
    go_wp2_with fail
    refine hst.mono ?_
    rintro e w1 ⟨rfl, rfl⟩
    go_wp2_with fail
    go_ret2
    exact ⟨Below.refl _ _, Or.inr ⟨HN.out, none, 0, rfl⟩⟩

theorem turn_set {ls : List Ln} {j : Nat} {x : Ln} (h : ls[j]? = some x) : (turnL (ls.take j) ++ ls.drop j)[j]? = some x ∧ (turnL (ls.take j) ++ ls.drop j).set j ⟨x.k, x.o, -x.v⟩ = turnL (ls.take (j + 1)) ++ ls.drop (j + 1) := by
  have hj := (List.getElem?_eq_some_iff.1 h).1
  have hx := (List.getElem?_eq_some_iff.1 h).2
  have hl : (turnL (ls.take j)).length = j := by unfold turnL; simp; omega
  have hd : ls.drop j = x :: ls.drop (j + 1) := by rw [List.drop_eq_getElem_cons hj, hx]
  have ht : turnL (ls.take (j + 1)) = turnL (ls.take j) ++ [⟨x.k, x.o, -x.v⟩] := by
    unfold turnL
    rw [List.take_add_one, h]
    simp
  constructor
  · rw [List.getElem?_append_right (by rw [hl]; exact Nat.le_refl _), hl, Nat.sub_self, hd]
    rfl
  · rw [List.set_append_right _ _ (by rw [hl]; exact Nat.le_refl _), hl, Nat.sub_self, hd, List.set_cons_zero, ht]
    simp

set_option maxHeartbeats 4000000 in
theorem turned_any (a : Option Addr) (n c : Nat) (ls : List Ln) (w : World) (hl : LinesAt w a n ls) (h0 : 1 ≤ n) (hn : n ≤ 1000) (hok : ∀ x ∈ ls, in64 x.v ∧ x.v ≠ -9223372036854775808) :
    Calls Tryd.prog 36 #[.slice a n c] w fun e w' => ∃ v, e = .returned v ∧ OwnsL w.heap.size v (turnL ls) w' ∧ Below w.heap.size w w' := by
  have hcl := cloneLn_any a n c ls w hl h0 hn
  have HLN := Lib.hid hl.1
  have HOK := Lib.hid hok
  clear hl hok
  go_enter Tryd.func36, Tryd.ntmps36
  go_wp2_with fail
  refine hcl.mono ?_
  rintro e w1 ⟨v, rfl, ho, hb⟩
  obtain ⟨a1, c1, rfl, h2, h3, h4, h5, h6, h7⟩ := ho.open
  obtain ⟨bl, rfl⟩ : ∃ bl, a1 = some ⟨bl, 0, none⟩ := by
    rcases h2.2 with h | ⟨b, off, rfl, -⟩
    · have := HLN.out; omega
    · have h := (h6 _ rfl).2.1
      simp only at h
      subst h
      exact ⟨b, rfl⟩
  have hc0 : n ≤ c1 := by rw [← HLN.out]; exact h3
  have HO : Hid (OwnsL w.heap.size (.slice (some ⟨bl, 0, none⟩) ls.length c1) (turnL (ls.take 0) ++ ls.drop 0) w1) := ho
  have HBW : Hid (w.heap.size ≤ bl) := (h6 _ rfl).1
  have HB := Lib.hid hb
  have hvl := HLN.out
  rw [hvl] at HO ⊢
  clear ho h2 h3 h4 h5 h6 h7 hb hvl
  go_wp2_with fail
  go_loopw [9] (fun i wr => ∃ j : Nat, i = .int .i64 (j : Int) ∧ j ≤ n ∧ Hid (OwnsL w.heap.size (.slice (some ⟨bl, 0, none⟩) n c1) (turnL (ls.take j) ++ ls.drop j) wr) ∧ Hid (Below w.heap.size w wr)) (fun i _ => n - (RowKit.intOf i).toNat)
  case atStart => exact ⟨0, rfl, by omega, HO, HB⟩
  case round =>
    obtain ⟨j, rfl, hj, hO, hB⟩ := hrel
    by_cases hlt : j < n
    · have u1 : (j : Int) < (n : Int) := by omega
      have hjl : j < ls.length := by rw [HLN.out]; exact hlt
      obtain ⟨x, hx⟩ : ∃ x, ls[j]? = some x := ⟨_, List.getElem?_eq_getElem hjl⟩
      obtain ⟨y1, y2⟩ := turn_set hx
      have hv := HOK.out x (List.mem_of_getElem? hx)
      have hN : Hid (OwnsL w.heap.size (.slice (some ⟨bl, 0, none⟩) n c1) (turnL (ls.take (j + 1)) ++ ls.drop (j + 1)) (wr.setCell ⟨bl, j * 3 + 2, none⟩ (.int .i64 (-x.v)))) := by
        rw [← y2]
        exact ownsL_setV hO.out rfl y1 (-x.v)
      have hBN : Hid (Below w.heap.size w (wr.setCell ⟨bl, j * 3 + 2, none⟩ (.int .i64 (-x.v)))) := hB.out.setCell HBW.out _
      obtain ⟨a', c', e', g2, -, -, -, -, g7⟩ := hO.out.open
      rcases g2.2 with h | ⟨b', off', e2, hc⟩
      · exfalso
        have := (List.getElem?_eq_some_iff.1 y1).1
        omega
      · simp only [Value.slice.injEq] at e'
        obtain ⟨rfl, -, -⟩ := e'
        cases e2
        have hf := g7 _ (j * 3 + 2) rfl
        obtain ⟨-, -, cv⟩ := hc j x y1
        rw [Nat.zero_add] at cv
        have t1 : IntKind.i64.wrap (-x.v) = -x.v := IntWalk.i64_in _ (by unfold in64 at hv; omega)
        clear y1 y2 hv g2 g7 hc hx
        go_wp2_with fail
        go_roundw
        case rel => exact ⟨j + 1, by go_num, by omega, hN, hBN⟩
        case measure => simp [RowKit.intOf]; omega
    · have u1 : ¬ (j : Int) < (n : Int) := by omega
      obtain rfl : j = n := by omega
      have HR : Hid (OwnsL w.heap.size (.slice (some ⟨bl, 0, none⟩) j c1) (turnL ls) wr) := by
        have h := hO.out
        rw [List.take_of_length_le (by rw [HLN.out]; exact Nat.le_refl _), List.drop_eq_nil_of_le (by rw [HLN.out]; exact Nat.le_refl _), List.append_nil] at h
        exact h
      go_wp2_with fail
      go_ret
      exact ⟨_, rfl, HR.out, hB.out⟩
end Go.Proofs.YtcdkgfjjgebcnaaDoor

/- The landed package book: Post. -/
namespace Go.Proofs.YtcdkgfjjgebcnaaDoor
open Go Go.RowKit
set_option linter.unusedVariables false

theorem mayN_eq (s : Bk) (ls : List Ln) : s.mayN ls = if 4096 ≤ s.L.length then 8 else if checkN ls ≠ 0 then checkN ls else if overL s.bal [] ls = true then 3 else 0 := by
  unfold Bk.mayN checkN
  by_cases h1 : 4096 ≤ s.L.length
  · rw [if_pos h1, if_pos h1]
  · rw [if_neg h1, if_neg h1]
    by_cases h2 : ls.length < 1 ∨ 32 < ls.length
    · rw [if_pos h2, if_pos h2]; rfl
    · rw [if_neg h2, if_neg h2]
      by_cases h3 : ls.any badL = true
      · rw [if_pos h3, if_pos h3]; rfl
      · rw [if_neg h3, if_neg h3]
        by_cases h4 : sumV ls ≠ 0
        · rw [if_pos h4, if_pos h4]; rfl
        · rw [if_neg h4, if_neg h4]; rfl
theorem checkN_len {ls : List Ln} (h : checkN ls = 0) : 1 ≤ ls.length ∧ ls.length ≤ 32 := by
  unfold checkN at h
  split at h
  · cases h
  · omega
theorem over_min {b : Int → Int → Int} : ∀ (pre l : List Ln), overL b pre l = false → ∀ x ∈ l, x.v ≠ -9223372036854775808 := by
  intro pre l
  induction l generalizing pre with
  | nil => intro _ x hx; cases hx
  | cons a l ih =>
    intro h x hx
    simp only [overL, Bool.or_eq_false_iff, decide_eq_false_iff_not] at h
    rcases List.mem_cons.1 hx with rfl | hx
    · exact h.1.2
    · exact ih _ h.2 x hx

/-- F, and what is new since w -/
def PlusF (F : Nat → Prop) (w W : World) : Nat → Prop := fun k => F k ∨ (w.heap.size ≤ k ∧ k < W.heap.size)

/-- an entry stands behind all -/
theorem bat_append {F : Nat → Prop} {g m : Nat} {v : Value} {es : List En} {s : Bk} {N : Nat} {f : Int → Int → Option Int} {w w1 w2 : World} {ls : List Ln} {v2 : Value} {a4 : Option Addr} {c4 : Nat} {o : Obj} (H : BAt F g m v es s N f w)
    (hb1 : Below w.heap.size w w1) (o1 : OwnsL w.heap.size (.slice a4 ls.length c4) ls w1) (hlen : s.L.length < 4096) (hok : OkE ls)
    (hr2 : OwnsG GEn 0 v2 (es ++ [⟨a4, ls.length, c4, false⟩]) w2) (q2 : (w1.alloc o).grownBy w2 v.ownBlock) (l2 : v2.ownBlock = v.ownBlock ∨ v2.ownBlock = some (w1.alloc o).heap.size) :
    BAt (PlusF F w (w2.setCell ⟨g, 0, none⟩ v2)) g m v2 (es ++ [⟨a4, ls.length, c4, false⟩]) (s.post ls) N f (w2.setCell ⟨g, 0, none⟩ v2) ∧ Only F w (w2.setCell ⟨g, 0, none⟩ v2) := by
  have hgl := H.lt g H.fg
  have hsz1 : w.heap.size ≤ w1.heap.size := hb1.size
  have hsz2 : w1.heap.size + 1 ≤ w2.heap.size := by have := q2.size; rwa [World.size_alloc] at this
  have hX1 : Only (fun k => k = g ∨ v.ownBlock = some k) w1 (w2.setCell ⟨g, 0, none⟩ v2) :=
    (((Only.refl (fun k => k = g ∨ v.ownBlock = some k) w1).alloc o).trans ⟨q2.os, q2.tape, q2.output, q2.size, fun k hk hF => q2.block k hk (fun e => hF (Or.inr e.symm))⟩).setCell (p := ⟨g, 0, none⟩) (Or.inl rfl) v2
  have hX : Only (fun k => k = g ∨ v.ownBlock = some k) w (w2.setCell ⟨g, 0, none⟩ v2) := (Only.of_below hb1).trans hX1
  have hXF : Only F w (w2.setCell ⟨g, 0, none⟩ v2) := hX.mono fun k _ hk => hk.elim (fun h => by rw [h]; exact H.fg) fun h => (H.fv k h).1
  have hsame : ∀ k, k < w.heap.size → v.ownBlock ≠ some k → w2.heap[k]? = w.heap[k]? := fun k hk hne => by
    rw [q2.block k (by rw [World.size_alloc]; omega) (fun e => hne e.symm), Below.heap_alloc _ _ _ (by omega), hb1.block k hk]
  have hvg : ∀ k, v2.ownBlock = some k → k ≠ g ∧ k ≠ m := fun k hk => by
    rcases l2 with l2 | l2
    · rw [l2] at hk; exact (H.fv k hk).2
    · have hml := H.lt m H.fm.1
      rw [l2, World.size_alloc] at hk; cases hk; omega
  have hszf : (w2.setCell ⟨g, 0, none⟩ v2).heap.size = w2.heap.size := by simp [World.setCell]
  have hkin : Kin (w2.setCell ⟨g, 0, none⟩ v2) := by
    exact H.kin.only hXF fun hk => Nat.lt_irrefl _ (H.low _ hk)
  obtain ⟨a5, c5, e5, k1, k2, k3, k4, k5, -⟩ := o1.open
  simp only [Value.slice.injEq, true_and] at e5
  obtain ⟨rfl, rfl⟩ := e5
  refine ⟨⟨?_, ?_, ?_, ?_, ?_, ?_, Or.inl H.fg, ⟨Or.inl H.fm.1, H.fm.2⟩, ?_, ?_, (fun k hk => hk.elim (H.low k) fun h => Nat.lt_of_lt_of_le H.kin.s1 h.1), hkin, ?_, ?_⟩, hXF⟩
  · have hR2 : Row g 63 [v, .map (some m)] w2 := by
      have h := H.r0
      unfold Row at h ⊢
      rw [hsame g hgl (fun e => (H.fv g e).2.1 rfl)]
      exact h
    exact hR2.set 0 v2
  · exact ownsG_only hr2 ((Only.refl (fun k => k = g) w2).setCell (p := ⟨g, 0, none⟩) rfl v2) fun k hk e => (hvg k hk).1 e
  · simp [Bk.post, H.le]
  · simp [Bk.post, H.ld]
  · intro j x l hj hl
    rcases Nat.lt_or_ge j s.L.length with hjl | hjl
    · rw [List.getElem?_append_left (by rw [H.le]; exact hjl)] at hj
      have hl' : s.L[j]? = some l := by
        rw [← hl]; show _ = (s.L ++ [ls])[j]?; rw [List.getElem?_append_left hjl]
      obtain ⟨q1, q2', q3, q4, q5, q6⟩ := H.row j x l hj hl'
      refine ⟨?_, q2', q3.only hX (fun ad e => Or.inr fun hh => hh.elim (q6 ad e).2.1 (q6 ad e).2.2.1), q4, q5, fun ad e => ⟨Or.inl (q6 ad e).1, (q6 ad e).2.1, fun h => ?_, (q6 ad e).2.2.2⟩⟩
      · show (s.done ++ [false])[j]? = _
        rw [List.getElem?_append_left (by rw [H.ld]; exact hjl)]
        exact q1
      · rcases l2 with l2 | l2
        · rw [l2] at h; exact (q6 ad e).2.2.1 h
        · have := H.lt _ (q6 ad e).1
          rw [l2, World.size_alloc] at h; have h' := Option.some.inj h; omega
    · have hjj : j = s.L.length := by
        have := (List.getElem?_eq_some_iff.1 hj).1
        rw [List.length_append, H.le] at this
        simp at this; omega
      subst hjj
      rw [List.getElem?_append_right (by rw [H.le]; exact Nat.le_refl _), H.le, Nat.sub_self, List.getElem?_cons_zero, Option.some.injEq] at hj
      subst hj
      have hl' : ls = l := by
        have : (s.L ++ [ls])[s.L.length]? = some l := hl
        rw [List.getElem?_append_right (Nat.le_refl _), Nat.sub_self, List.getElem?_cons_zero, Option.some.injEq] at this
        exact this
      subst hl'
      refine ⟨?_, rfl, k1.only hX1 fun ad e => Or.inr fun hh => ?_, k2, k3, fun ad e => ?_⟩
      · show (s.done ++ [false])[s.L.length]? = _
        rw [List.getElem?_append_right (by rw [H.ld]; exact Nat.le_refl _), H.ld, Nat.sub_self]
        rfl
      · have h1 := (k5 ad e).1
        rcases hh with hh | hh
        · omega
        · have := H.lt _ (H.fv _ hh).1; omega
      · have h1 := (k5 ad e).1
        have h4 := (k5 ad e).2.2.2
        have hml := H.lt m H.fm.1
        refine ⟨Or.inr ⟨h1, by rw [hszf]; omega⟩, by omega, fun h => ?_, by omega⟩
        rcases l2 with l2 | l2
        · rw [l2] at h
          have := H.lt _ (H.fv _ h).1; omega
        · rw [l2, World.size_alloc] at h; have h' := Option.some.inj h; omega
  · exact H.mp.only hX fun hh => hh.elim H.fm.2 fun h => (H.fv m h).2.2 rfl
  · intro q hq
    refine ⟨?_, hvg q hq⟩
    rcases l2 with l2 | l2
    · rw [l2] at hq; exact Or.inl (H.fv q hq).1
    · have hlt := (World.ownsRow.lt hr2 q hq).2
      rw [l2, World.size_alloc] at hq; cases hq
      exact Or.inr ⟨by omega, by rw [hszf]; exact hlt⟩
  · intro k hk
    rw [hszf]
    rcases hk with hk | hk
    · have := H.lt k hk; omega
    · rw [hszf] at hk; exact hk.2
  · simp [Bk.post]; omega
  · intro l hl
    rcases List.mem_append.1 hl with hl | hl
    · exact H.ok l hl
    · rw [List.mem_singleton.1 hl]; exact hok

theorem build_entry (a : Option Addr) (n c : Nat) (w : World) : (Instr.build 71 #[(0, .slice a n c)]).run Tryd.prog w = .ok (.agg #[.slice a n c, .bool false]) w := run_build w 71 _ _ (by kernel_rfl)
theorem one_entry (w : World) (a : Option Addr) (n c : Nat) : RowsAt GEn (w.alloc (Obj.cells #[.slice a n c, .bool false] 71)) (some ⟨w.heap.size, 0, none⟩) 1 [⟨a, n, c, false⟩] := by
  refine RowsAt.one fun i v hv => ?_
  match i with
  | 0 => simp only [GEn, List.getElem?_cons_zero, Option.some.injEq] at hv; subst hv; simp
  | 1 => simp only [GEn, List.getElem?_cons_succ, List.getElem?_cons_zero, Option.some.injEq] at hv; subst hv; simp
  | (i + 2) => simp [GEn] at hv

theorem Only.trans' {F : Nat → Prop} {a b c : World} (h : Only F a b) (k : Only F b c) : Only F a c := h.trans k
theorem BAt.widen {F : Nat → Prop} {g m : Nat} {v : Value} {es : List En} {s : Bk} {N : Nat} {f : Int → Int → Option Int} {w0 w w' : World} (H : BAt (PlusF F w w') g m v es s N f w') (ho : Only F w0 w) (T : Kin w0) : BAt (PlusF F w0 w') g m v es s N f w' where
  r0 := H.r0
  ent := H.ent
  le := H.le
  ld := H.ld
  row := fun j x ls h1 h2 => by
    obtain ⟨q1, q2, q3, q4, q5, q6⟩ := H.row j x ls h1 h2
    exact ⟨q1, q2, q3, q4, q5, fun ad e => ⟨(q6 ad e).1.elim Or.inl fun h => Or.inr ⟨Nat.le_trans ho.size h.1, h.2⟩, (q6 ad e).2⟩⟩
  mp := H.mp
  fg := H.fg.elim Or.inl fun h => Or.inr ⟨Nat.le_trans ho.size h.1, h.2⟩
  fm := ⟨H.fm.1.elim Or.inl fun h => Or.inr ⟨Nat.le_trans ho.size h.1, h.2⟩, H.fm.2⟩
  fv := fun q hq => ⟨(H.fv q hq).1.elim Or.inl fun h => Or.inr ⟨Nat.le_trans ho.size h.1, h.2⟩, (H.fv q hq).2⟩
  lt := fun k hk => hk.elim (fun h => H.lt k (Or.inl h)) (·.2)
  low := fun k hk => hk.elim (fun h => H.low k (Or.inl h)) fun h => Nat.lt_of_lt_of_le T.s1 h.1
  kin := H.kin
  big := H.big
  ok := H.ok
theorem len_back10 (n : Nat) (h : n ≤ 4096) : IntKind.i64.wrap (((n + 1 : Nat) : Int) - 1) = (n : Int) ∧ IntKind.i64.wrap ((n : Int) + 1 - 1) = (n : Int) := by
  constructor
  · rw [IntWalk.i64_in _ (by omega)]; omega
  · rw [IntWalk.i64_in _ (by omega)]; omega
/-- the books' struct stays while the entries' row grows -/
theorem keep_g {F : Nat → Prop} {g m : Nat} {v : Value} {es : List En} {s : Bk} {N : Nat} {f : Int → Int → Option Int} {y w : World} {o : Obj} (H : BAt F g m v es s N f y) (q : (y.alloc o).grownBy w v.ownBlock) :
    w.cell? ⟨g, 0, none⟩ = some v ∧ w.frozen? ⟨g, 0, none⟩ = false := by
  have hg := H.lt g H.fg
  have e : w.heap[g]? = y.heap[g]? := by
    rw [q.block g (by rw [World.size_alloc]; omega) (fun e => (H.fv g e.symm).2.1 rfl), Below.heap_alloc _ _ _ hg]
  exact ⟨(World.cell?_of_block (a := ⟨g, 0, none⟩) e).trans H.cells.1, (World.frozen?_of_block (a := ⟨g, 0, none⟩) e).trans (H.r0.frozen 0)⟩

set_option maxRecDepth 100000 in
set_option maxHeartbeats 8000000 in
theorem post10_any {F : Nat → Prop} {g m : Nat} {v : Value} {es : List En} {s : Bk} (a : Option Addr) (n c : Nat) (ls : List Ln) (w : World) (H : BAt F g m v es s (32 * s.L.length) (balF s) w) (hl : LinesAt w a n ls) (hok : OkL ls) (hx : ∀ x, a = some x → n = 0 ∨ ¬ F x.block) (hc : n ≤ c) (hn : n ≤ 1000) :
    Calls Tryd.prog 22 #[.pointer (some ⟨g, 0, none⟩), .slice a n c] w fun e w' => Only F w w' ∧
      ((s.mayN ls = 0 ∧ e = .returned (.tuple #[.int .i64 (s.L.length : Int), .nilIface]) ∧ ∃ v' es', BAt (PlusF F w w') g m v' es' (s.post ls) (32 * (s.L.length + 1)) (balF (s.post ls)) w') ∨
        (s.mayN ls ≠ 0 ∧ e = .returned (.tuple #[.int .i64 0, errv (s.mayN ls : Int)]) ∧ BAt F g m v es s (32 * s.L.length) (balF s) w')) := by
  have r1 := run_neq_errv_nil
  have g1 := guard_neq_errv_nil
  have hmay := mayN_eq s ls
  obtain ⟨c0, c1⟩ := H.cells
  obtain ⟨aL, cL, rfl, hL1, hL2, hL3⟩ := H.slice
  have HLN := Lib.hid hl.1
  have HL := Lib.hid hl
  have HOK := Lib.hid hok
  have HX := Lib.hid hx
  have HH := Lib.hid H
  have HBIG := Lib.hid H.big
  have hch := check10_any a n c ls w H.kin hl hok hc hn
  clear hl hok hx H hL3
  by_cases h4 : 4096 ≤ s.L.length
  · rw [if_pos h4] at hmay
    have HM := Lib.hid hmay
    have t1 : (4096 : Int) ≤ (s.L.length : Int) := by omega
    clear hmay h4 hch
    go_enter Tryd.func22, Tryd.ntmps22
    go_wp2_with fail
    go_ret2
    exact ⟨Only.refl _ _, Or.inr ⟨by rw [HM.out]; decide, by rw [HM.out]; rfl, HH.out⟩⟩
  · rw [if_neg h4] at hmay
    have t1 : ¬ (4096 : Int) ≤ (s.L.length : Int) := by omega
    have HLT : Hid (s.L.length < 4096) := by show _ < _; omega
    by_cases hcn : checkN ls ≠ 0
    · rw [if_pos hcn] at hmay
      have HM := Lib.hid hmay
      obtain ⟨k, hk⟩ : ∃ k : Nat, checkN ls = k := ⟨_, rfl⟩
      rw [hk] at hch hcn HM
      have HK := Lib.hid hcn
      have t2 : ((k : Int) != 0) = true := by simpa using hcn
      clear hmay h4 hcn hk
      go_enter Tryd.func22, Tryd.ntmps22
      go_wp2_with fail
      refine hch.mono ?_
      rintro e w1 ⟨rfl, hb⟩
      have HB := Lib.hid hb
      clear hb
      go_wp2_with fail
      go_ret2
      exact ⟨Only.of_below HB.out, Or.inr ⟨by rw [HM.out]; exact HK.out, by rw [HM.out]; rfl, HH.out.up HB.out⟩⟩
    · rw [if_neg hcn] at hmay
      have hcz : checkN ls = 0 := by omega
      have HCL := Lib.hid (checkN_len hcz)
      rw [hcz] at hch
      clear hcn hcz h4
      have HMAY := Lib.hid hmay
      clear hmay
      go_enter Tryd.func22, Tryd.ntmps22
      go_wp2_with fail
      refine hch.mono ?_
      rintro e w1 ⟨rfl, hb⟩
      have HB := Lib.hid hb
      clear hb c0 c1
      have hbh := behind_any a n c ls w1 (HH.out.up HB.out) (HL.out.up HB.out) HOK.out hn
      go_wp2_with fail
      refine hbh.mono ?_
      rintro e w2 ⟨hb2, ⟨ho, q, rfl, hq, hm⟩ | ⟨ho, rfl⟩⟩
      rotate_left
      · have HM : Hid (s.mayN ls = 3) := by show _ = _; rw [HMAY.out, if_pos ho]
        have HB2 := Lib.hid (HB.out.trans (hb2.mono HB.out.size))
        clear hb2 ho
        go_wp2_with fail
        go_ret2
        exact ⟨Only.of_below HB2.out, Or.inr ⟨by rw [HM.out]; decide, by rw [HM.out]; rfl, HH.out.up HB2.out⟩⟩
      · have HM : Hid (s.mayN ls = 0) := by show _ = _; rw [HMAY.out, if_neg (by rw [ho]; decide)]
        have HB2 := Lib.hid (HB.out.trans (hb2.mono HB.out.size))
        have HE : Hid (OkE ls) := ⟨HCL.out.1, HCL.out.2, HOK.out, over_min [] ls ho⟩
        have H2 := HH.out.up HB2.out
        have hmq : m ≠ q := by
          have h1 := HH.out.lt m HH.out.fm.1
          have h2 := HB.out.size
          omega
        have hst := settle_any (N := 32 * s.L.length) (c := n) w2 H2.r0 H2.mp hm hmq H2.fm.2.symm (by have := HBIG.out; omega)
        clear hb2 ho hq hm hbh
        go_wp2_with fail
        refine hst.mono ?_
        rintro e w3 ⟨rfl, ho3, hm3⟩
        have hn32 : n ≤ 32 := by rw [← HLN.out]; exact HCL.out.2
        have hm4 : OwnM m (32 * (s.L.length + 1)) (balF (s.post ls)) w3 := (hm3.mono (by omega)).cong fun k o _ _ => mixF_post s ls k o
        have H3 := H2.remap ho3 hm4 (H2.kin.only ho3 (fun e => by have := H2.low m H2.fm.1; omega))
        have HO3 : Hid (Only F w w3) := (Only.of_below HB2.out).trans (ho3.mono fun k _ hk => by rw [hk]; exact HH.out.fm.1)
        have HL3 : Hid (LinesAt w3 a n ls) := HL.out.only HO3.out HX.out
        have HH3 := Lib.hid H3
        clear hst H2 ho3 hm3 hm4 hmq H3
        have d0 : w3.cell? ⟨g, 0, none⟩ = some (.slice aL s.L.length cL) := HH3.out.cells.1
        have HCLN : Hid (Calls Tryd.prog 31 #[.slice a n c] w3.drew fun e w' => ∃ v, e = .returned v ∧ OwnsL w3.heap.size v ls w' ∧ Below w3.heap.size w3.drew w') :=
          cloneLn_any a n c ls w3.drew (HL3.out.up (Below.refl _ _).drew) (by rw [← HLN.out]; exact HCL.out.1) hn
        have hbe := build_entry
        have t9 := (len_back10 s.L.length HBIG.out).1
        have t10 := (len_back10 s.L.length HBIG.out).2
        go_wp2_with fail
        go_region_law (first
          | (go_simp; go_at_call 31; refine HCLN.out.mono ?_; rintro e y1 ⟨v1, rfl, ho1, hby⟩
             obtain ⟨a4, c4, rfl, -, -, -, -, -, -⟩ := ho1.open
             have hB1 : Below w3.heap.size w3 y1 := (Below.refl w3.heap.size w3).drew.trans hby
             have HB1 := Lib.hid hB1
             have HO1 := Lib.hid ho1
             have HY := Lib.hid (HH3.out.up hB1)
             have e0 : y1.cell? ⟨g, 0, none⟩ = some (.slice aL s.L.length cL) := HY.out.cells.1
             have e0a : ∀ o, (y1.alloc o).cell? ⟨g, 0, none⟩ = some (.slice aL s.L.length cL) := fun o => (HY.out.up ((Below.refl _ y1).alloc (Nat.le_refl _) o)).cells.1
             have HOE : Hid (∀ o, OwnsG GEn 0 (.slice aL s.L.length cL) es (y1.alloc o)) := fun o => (HY.out.up ((Below.refl _ y1).alloc (Nat.le_refl _) o)).ent
             clear ho1 hby hB1)
          | (refine step_append_g GEn rfl (.tmp 37) (.tmp 41) rfl 0 _ es (by simp [Act.eval]) (HOE.out _) (some ⟨y1.heap.size, 0, none⟩) 1 1 [⟨a4, ls.length, c4, false⟩] (by simp [Act.eval]) (fun h => by cases h) (one_entry _ _ _ _) (by rw [HH3.out.le]; have := HBIG.out; omega) (Nat.zero_le _) ?_
             intro v2 w5 o2 q2 r2 l2
             have HM2 := Lib.hid (bat_append HH3.out HB1.out HO1.out HLT.out HE.out o2 q2 l2)
             obtain ⟨aL2, cL2, hv2, -⟩ := o2.open
             rw [show (es ++ [(⟨a4, ls.length, c4, false⟩ : En)]).length = s.L.length + 1 by rw [List.length_append, HH3.out.le]; rfl] at hv2
             subst hv2
             obtain ⟨cg0, fg0⟩ := keep_g HY.out q2
             clear o2 q2 r2 l2))
        all_goals
          clear cg0 fg0
          generalize w5.setCell ⟨g, 0, none⟩ (.slice aL2 (s.L.length + 1) cL2) = w6 at HM2 ⊢
          have z0 : w6.cell? ⟨g, 0, none⟩ = some (.slice aL2 (s.L.length + 1) cL2) := HM2.out.1.cells.1
          clear e0 e0a
          go_wp2_with fail
          go_ret2
          refine ⟨HO3.out.trans' HM2.out.2, Or.inl ⟨HM.out, rfl, _, _, HM2.out.1.widen HO3.out HH.out.kin⟩⟩
end Go.Proofs.YtcdkgfjjgebcnaaDoor

/- The landed package book: Reverse. -/
namespace Go.Proofs.YtcdkgfjjgebcnaaDoor
open Go Go.RowKit
set_option linter.unusedVariables false

theorem BAt.froz {F : Nat → Prop} {g m : Nat} {es : List En} {s : Bk} {N : Nat} {f : Int → Int → Option Int} {w : World} {q n c : Nat} (H : BAt F g m (.slice (some ⟨q, 0, none⟩) n c) es s N f w) (i : Nat) : w.frozen? ⟨q, i, none⟩ = false := by
  obtain ⟨a, c', h1, -, -, -, -, -, h7⟩ := H.ent.open
  simp only [Value.slice.injEq] at h1
  exact h7 _ i h1.1.symm

theorem BAt.mono {F F' : Nat → Prop} {g m : Nat} {v : Value} {es : List En} {s : Bk} {N : Nat} {f : Int → Int → Option Int} {w : World} (H : BAt F g m v es s N f w) (hF : ∀ k, F k → F' k) (hl : ∀ k, F' k → k < w.heap.size) (hk : ∀ k, F' k → 0 < k) : BAt F' g m v es s N f w where
  r0 := H.r0
  ent := H.ent
  le := H.le
  ld := H.ld
  row := fun j x ls h1 h2 => by
    obtain ⟨q1, q2, q3, q4, q5, q6⟩ := H.row j x ls h1 h2
    exact ⟨q1, q2, q3, q4, q5, fun ad e => ⟨hF _ (q6 ad e).1, (q6 ad e).2⟩⟩
  mp := H.mp
  fg := hF _ H.fg
  fm := ⟨hF _ H.fm.1, H.fm.2⟩
  fv := fun q hq => ⟨hF _ (H.fv q hq).1, (H.fv q hq).2⟩
  lt := hl
  low := hk
  kin := H.kin
  big := H.big
  ok := H.ok
theorem only_plusF {F : Nat → Prop} {w w3 w5 : World} {q : Nat} (h : Only F w w3) (hq : PlusF F w w3 q) (ho : Only (fun k => k = q) w3 w5) : Only F w w5 :=
  ⟨ho.os.trans h.os, ho.tape.trans h.tape, ho.output.trans h.output, Nat.le_trans h.size ho.size, fun k hk hF => (ho.block k (Nat.lt_of_lt_of_le hk h.size) fun e => by
    rw [e] at hF hk
    exact hq.elim hF fun h' => by omega).trans (h.block k hk hF)⟩

/-- an entry is paired -/
theorem bat_pair {F : Nat → Prop} {g m : Nat} {v : Value} {es : List En} {s : Bk} {N : Nat} {f : Int → Int → Option Int} {w : World} {q j : Nat} {x : En} (H : BAt F g m v es s N f w) (hv : v.ownBlock = some q) (hx : es[j]? = some x) :
    BAt F g m v (es.set j ⟨x.a, x.n, x.c, true⟩) ⟨s.L, s.done.set j true⟩ N f (w.setCell ⟨q, j * 2 + 1, none⟩ (.bool true)) ∧ Only (fun k => k = q) w (w.setCell ⟨q, j * 2 + 1, none⟩ (.bool true)) := by
  obtain ⟨fq, qg, qm⟩ := H.fv q hv
  have ho : Only (fun k => k = q) w (w.setCell ⟨q, j * 2 + 1, none⟩ (.bool true)) := (Only.refl (fun k => k = q) w).setCell (p := ⟨q, j * 2 + 1, none⟩) rfl _
  refine ⟨⟨H.r0.only ho (fun e => qg e.symm), ownsE_setD H.ent hv hx true, by rw [List.length_set]; exact H.le, by show (s.done.set j true).length = _; rw [List.length_set]; exact H.ld, fun i y ls h1 h2 => ?_, H.mp.only ho (fun e => qm e.symm), H.fg, H.fm, H.fv, fun k hk => Nat.lt_of_lt_of_le (H.lt k hk) ho.size, H.low, H.kin.only ho (fun e => by have := H.low q fq; omega), H.big, H.ok⟩, ho⟩
  by_cases hij : j = i
  · subst hij
    have hjl := (List.getElem?_eq_some_iff.1 hx).1
    rw [List.getElem?_set_self hjl] at h1
    cases h1
    obtain ⟨q1, q2, q3, q4, q5, q6⟩ := H.row j x ls hx h2
    refine ⟨?_, q2, q3.only ho (fun ad e => Or.inr fun hk => (q6 ad e).2.2.1 (by rw [hv, hk])), q4, q5, q6⟩
    show (s.done.set j true)[j]? = some true
    rw [List.getElem?_set_self (by rw [H.ld, ← H.le]; exact hjl)]
  · rw [List.getElem?_set_ne hij] at h1
    obtain ⟨q1, q2, q3, q4, q5, q6⟩ := H.row i y ls h1 h2
    refine ⟨?_, q2, q3.only ho (fun ad e => Or.inr fun hk => (q6 ad e).2.2.1 (by rw [hv, hk])), q4, q5, q6⟩
    show (s.done.set j true)[i]? = _
    rw [List.getElem?_set_ne hij]
    exact q1

theorem ok_turn {ls : List Ln} (h : OkE ls) : OkL (turnL ls) := fun y hy => by
  obtain ⟨x, hx, rfl⟩ := List.mem_map.1 hy
  have h1 := h.2.2.1 x hx
  have h2 := h.2.2.2 x hx
  obtain ⟨q1, q2, q3⟩ := h1
  refine ⟨q1, q2, ?_⟩
  show in64 (-x.v)
  unfold in64 at *
  omega

set_option maxRecDepth 100000 in
set_option maxHeartbeats 8000000 in
theorem reverse10_any {F : Nat → Prop} {g m : Nat} {v : Value} {es : List En} {s : Bk} (n : Int) (w : World) (H : BAt F g m v es s (32 * s.L.length) (balF s) w) (hn : in64 n) :
    Calls Tryd.prog 21 #[.pointer (some ⟨g, 0, none⟩), .int .i64 n] w fun e w' => Only F w w' ∧
      ((s.revN n = 0 ∧ e = .returned (.tuple #[.int .i64 (s.L.length : Int), .nilIface]) ∧ ∃ v' es', BAt (PlusF F w w') g m v' es' (s.rev n) (32 * (s.L.length + 1)) (balF (s.rev n)) w') ∨
        (s.revN n ≠ 0 ∧ e = .returned (.tuple #[.int .i64 0, errv (s.revN n : Int)]) ∧ BAt F g m v es s (32 * s.L.length) (balF s) w')) := by
  have r1 := run_neq_errv_nil
  have g1 := guard_neq_errv_nil
  have hst := stands_any n w H hn
  have HH := Lib.hid H
  by_cases h : 0 ≤ n ∧ n < (s.L.length : Int)
  · rw [show standsN s n = true from decide_eq_true h] at hst
    obtain ⟨h1, h2⟩ := h
    obtain ⟨j, rfl⟩ : ∃ j : Nat, n = (j : Int) := ⟨n.toNat, by omega⟩
    have hj : j < s.L.length := by omega
    obtain ⟨q, c, x, ls, rfl, -, -, -, hx, hl, hm, hd, hxn, hla, hxc, hxm, hxb, e0, e1⟩ := H.entry hj
    obtain ⟨c0, c1⟩ := H.cells
    have hR : s.revN (j : Int) = if x.d = true then 5 else s.mayN (turnL ls) := by
      unfold Bk.revN
      rw [if_neg (by omega), Int.toNat_natCast]
      simp [List.getD, hd, hl]
    have HREV : Hid (s.rev (j : Int) = ⟨(s.post (turnL ls)).L, ((s.post (turnL ls)).done.set j true).set s.L.length true⟩) := by
      show _ = _
      unfold Bk.rev Bk.post
      rw [Int.toNat_natCast]
      simp [List.getD, hl]
    have HOK := Lib.hid (H.ok ls hm)
    have HBIG := Lib.hid H.big
    have HTU := Lib.hid (fun W (hb : Below w.heap.size w W) => turned_any x.a x.n x.c ls W (hla.up hb) (by rw [hxn]; exact (H.ok ls hm).1) (by rw [hxn]; have := (H.ok ls hm).2.1; omega) (fun y hy => ⟨((H.ok ls hm).2.2.1 y hy).2.2, (H.ok ls hm).2.2.2 y hy⟩))
    obtain ⟨xa, xn, xc, xd⟩ := x
    simp only at hR HTU e0 e1 hxn
    clear H hx hl hm hd hla hxc hxm hxb hxn
    cases xd with
    | true =>
      have HR : Hid (s.revN (j : Int) = 5) := hR
      clear hR HTU
      go_enter Tryd.func21, Tryd.ntmps21
      go_wp2_with fail
      refine hst.mono ?_
      rintro e w1 ⟨rfl, hw1⟩
      obtain rfl : w = w1 := hw1.symm
      go_wp2_with fail
      go_ret2
      exact ⟨Only.refl _ _, Or.inr ⟨by rw [HR.out]; decide, by rw [HR.out]; rfl, HH.out⟩⟩
    | false =>
      have HR : Hid (s.revN (j : Int) = s.mayN (turnL ls)) := hR
      have hturn := HTU.out w (Below.refl _ _)
      clear hR HTU
      go_enter Tryd.func21, Tryd.ntmps21
      go_wp2_with fail
      refine hst.mono ?_
      rintro e w1 ⟨rfl, hw1⟩
      obtain rfl : w = w1 := hw1.symm
      go_wp2_with fail
      refine hturn.mono ?_
      rintro e w2 ⟨vt, rfl, ho, hb⟩
      obtain ⟨ta, tc, rfl, t2, t3, t4, t5, t6, t7⟩ := ho.open
      have hpo := post10_any ta (turnL ls).length tc (turnL ls) w2 (HH.out.up hb) t2 (ok_turn HOK.out) (fun y e => Or.inr fun hf => by
        have h1 := (t6 y e).1
        have h2 := HH.out.lt _ hf
        omega) t3 (by unfold turnL; rw [List.length_map]; have := HOK.out.2.1; omega)
      have HB := Lib.hid hb
      clear ho t2 t3 t4 t5 t6 t7 hb
      obtain ⟨tl, htl⟩ : ∃ tl, turnL ls = tl := ⟨_, rfl⟩
      rw [htl] at hpo HR HREV ⊢
      have hlen : (s.post tl).L.length = s.L.length + 1 := by simp [Bk.post]
      have hj2 : j < (s.post tl).L.length := by omega
      have hl2 : s.L.length < (s.post tl).L.length := by omega
      have HJ := Lib.hid (And.intro hj2 hl2)
      have HLEN := Lib.hid hlen
      clear htl hlen hj2 hl2
      go_wp2_with fail
      with_reducible refine hpo.mono ?_
      rintro e w3 ⟨hO, ⟨hm0, rfl, v', es', hB⟩ | ⟨hm0, rfl, hB⟩⟩
      · have HM : Hid (s.revN (j : Int) = 0) := HR.out.trans hm0
        have HO3 : Hid (Only F w w3) := (Only.of_below HB.out).trans hO
        have HB3 := Lib.hid (hB.widen (Only.of_below HB.out : Only F w w2) HH.out.kin)
        clear hO hB hm0
        obtain ⟨q3, c3, x3, l3, rfl, f3, -, -, hx3, -, -, -, -, -, -, -, -, -, z1⟩ := HB3.out.entry HJ.out.1
        obtain ⟨z0, -⟩ := HB3.out.cells
        have fz := HB3.out.froz (j * 2 + 1)
        have HP := Lib.hid (bat_pair HB3.out rfl hx3)
        have HF3 := Lib.hid f3
        have HLEN3 := HLEN.out
        rw [HLEN3] at z0
        have t5 : (j : Int) < ((s.L.length + 1 : Nat) : Int) := by omega
        have t6 : j < s.L.length + 1 := by omega
        obtain ⟨w4, hw4⟩ : ∃ w4, w3.setCell ⟨q3, j * 2 + 1, none⟩ (.bool true) = w4 := ⟨_, rfl⟩
        rw [hw4] at HP
        obtain ⟨q4, c4, x4, l4, e4, f4, -, -, hx4, -, -, -, -, -, -, -, -, -, z4⟩ := HP.out.1.entry HJ.out.2
        simp only [Value.slice.injEq, Option.some.injEq, Addr.mk.injEq, true_and, and_true] at e4
        obtain ⟨rfl, -⟩ := e4
        obtain ⟨y0, -⟩ := HP.out.1.cells
        have fz4 := HP.out.1.froz (s.L.length * 2 + 1)
        have y0' : w4.cell? ⟨g, 0, none⟩ = some (.slice (some ⟨q3, 0, none⟩) (s.L.length + 1) c3) := by rw [y0]; show some (Value.slice _ (s.post tl).L.length _) = _; rw [HLEN3]
        have HQ := Lib.hid (bat_pair HP.out.1 rfl hx4)
        have HHB := Lib.hid HBIG.out
        clear hx3 f3 c0 c1 e0 e1 HLEN3 y0 hx4 f4
        go_wp2_with fail
        go_ret2
        have ho5 := HP.out.2.trans HQ.out.2
        have hO5 := only_plusF HO3.out HF3.out ho5
        have hfin := HQ.out.1.mono (F' := PlusF F w (w4.setCell ⟨q3, s.L.length * 2 + 1, none⟩ (.bool true))) (fun k hk => hk.elim Or.inl fun h => Or.inr ⟨h.1, Nat.lt_of_lt_of_le h.2 ho5.size⟩) (fun k hk => hk.elim (fun h => Nat.lt_of_lt_of_le (HH.out.lt k h) hO5.size) (·.2)) (fun k hk => hk.elim (HH.out.low k) fun h => Nat.lt_of_lt_of_le HH.out.kin.s1 h.1)
        refine ⟨hO5, Or.inl ⟨HM.out, rfl, ?_⟩⟩
        rw [HREV.out]
        exact ⟨_, _, hfin⟩
      · have HM : Hid (s.revN (j : Int) ≠ 0) := by show _ ≠ _; rw [HR.out]; exact hm0
        have HO3 : Hid (Only F w w3) := (Only.of_below HB.out).trans hO
        have HB3 := Lib.hid hB
        obtain ⟨k, hk⟩ : ∃ k, s.mayN tl = k := ⟨_, rfl⟩
        rw [hk] at hm0 HR ⊢
        have t2 : ((k : Int) != 0) = true := by simpa using hm0
        clear hO hB hm0 hk
        go_wp2_with fail
        go_ret2
        exact ⟨HO3.out, Or.inr ⟨HM.out, by rw [HR.out]; rfl, HB3.out⟩⟩
  · rw [show standsN s n = false from decide_eq_false h] at hst
    have HR : Hid (s.revN n = 4) := if_pos (by omega)
    clear H hn h
    go_enter Tryd.func21, Tryd.ntmps21
    go_wp2_with fail
    refine hst.mono ?_
    rintro e w1 ⟨rfl, hw1⟩
    obtain rfl : w = w1 := hw1.symm
    go_wp2_with fail
    go_ret2
    exact ⟨Only.refl _ _, Or.inr ⟨by rw [HR.out]; decide, by rw [HR.out]; rfl, HH.out⟩⟩
end Go.Proofs.YtcdkgfjjgebcnaaDoor

/- The landed package book: Clone. -/
namespace Go.Proofs.YtcdkgfjjgebcnaaDoor
open Go Go.RowKit
set_option linter.unusedVariables false

/-- books that are copied: the struct in g', the map in m', the entries v', of which j have rows of their own -/
structure ClAt (F : Nat → Prop) (w : World) (g m : Nat) (v : Value) (es : List En) (s : Bk) (g' m' : Nat) (v' : Value) (es' : List En) (j : Nat) (W : World) : Prop where
  old : BAt F g m v es s (32 * s.L.length) (balF s) W
  r0 : Row g' 63 [v', .map (some m')] W
  ent : OwnsG GEn w.heap.size v' es' W
  mp : OwnM m' (32 * s.L.length) (balF s) W
  hg : w.heap.size ≤ g'
  hm : w.heap.size ≤ m' ∧ m' ≠ g'
  hv : ∀ q, v'.ownBlock = some q → q ≠ g' ∧ q ≠ m'
  len : es'.length = s.L.length
  rest : ∀ i, j ≤ i → es'[i]? = es[i]?
  new : ∀ (i : Nat) (x : En) (ls : List Ln), i < j → es'[i]? = some x → s.L[i]? = some ls → s.done[i]? = some x.d ∧ x.n = ls.length ∧ LinesAt W x.a x.n ls ∧ x.n ≤ x.c ∧ x.c ≤ maxLen ∧ ∀ ad, x.a = some ad → (w.heap.size ≤ ad.block ∧ ad.block < W.heap.size) ∧ ad.block ≠ g' ∧ v'.ownBlock ≠ some ad.block ∧ ad.block ≠ m'
  below : Below w.heap.size w W
  fl : ∀ k, F k → k < w.heap.size
  kl : 0 < w.heap.size
section
variable {F : Nat → Prop} {w : World} {g m : Nat} {v : Value} {es : List En} {s : Bk} {g' m' : Nat} {v' : Value} {es' : List En} {j : Nat} {W W' : World}
theorem ClAt.up (H : ClAt F w g m v es s g' m' v' es' j W) (hb : Below W.heap.size W W') : ClAt F w g m v es s g' m' v' es' j W' where
  old := H.old.up hb
  r0 := H.r0.up hb
  ent := H.ent.up hb
  mp := H.mp.up hb
  hg := H.hg
  hm := H.hm
  hv := H.hv
  len := H.len
  rest := H.rest
  new := fun i x ls h1 h2 h3 => by
    obtain ⟨q1, q2, q3, q4, q5, q6⟩ := H.new i x ls h1 h2 h3
    exact ⟨q1, q2, q3.up hb, q4, q5, fun ad e => ⟨⟨(q6 ad e).1.1, Nat.lt_of_lt_of_le (q6 ad e).1.2 hb.size⟩, (q6 ad e).2⟩⟩
  below := H.below.trans (hb.mono H.below.size)
  fl := H.fl
  kl := H.kl
theorem ClAt.cell (H : ClAt F w g m v es s g' m' v' es' j W) : W.cell? ⟨g', 0, none⟩ = some v' := H.r0.cell (j := 0) (by simp)
theorem ClAt.step {y1 : World} {q : Nat} {x : En} {ls : List Ln} {a4 : Option Addr} {c4 : Nat} (H : ClAt F w g m v es s g' m' v' es' j W) (hb : Below W.heap.size W y1) (ho : OwnsL W.heap.size (.slice a4 ls.length c4) ls y1) (hv : v'.ownBlock = some q) (hx : es'[j]? = some x) (hl : s.L[j]? = some ls) (hd : s.done[j]? = some x.d) :
    ClAt F w g m v es s g' m' v' (es'.set j ⟨a4, ls.length, c4, x.d⟩) (j + 1) (y1.setCell ⟨q, j * 2, none⟩ (.slice a4 ls.length c4)) := by
  have H1 := H.up hb
  obtain ⟨qg, qm⟩ := H.hv q hv
  have hq := World.ownsRow.lt H1.ent q hv
  have hq0 := World.ownsRow.lt H.ent q hv
  have hO : Only (fun k => k = q) y1 (y1.setCell ⟨q, j * 2, none⟩ (.slice a4 ls.length c4)) := (Only.refl (fun k => k = q) y1).setCell (p := ⟨q, j * 2, none⟩) rfl _
  have hjl := (List.getElem?_eq_some_iff.1 hx).1
  have hfq : ∀ k, k = q → ¬ F k := fun k e hf => by
    have h1 := H.fl k hf
    have h2 := hq.1
    omega
  refine ⟨H1.old.only hO hfq (H1.old.kin.only hO fun e => ?_), H1.r0.only hO (fun e => qg e.symm), ownsE_setL H1.ent hv hx a4 ls.length c4, H1.mp.only hO (fun e => qm e.symm), H.hg, H.hm, H.hv, by rw [List.length_set]; exact H.len, fun i hi => ?_, fun i y l h1 h2 h3 => ?_, H1.below.setCell hq.1 _, H.fl, H.kl⟩
  · have h1 := H.kl
    have h2 := hq.1
    omega
  · rw [List.getElem?_set_ne (by omega)]
    exact H.rest i (by omega)
  · by_cases hij : j = i
    · subst hij
      rw [List.getElem?_set_self hjl] at h2
      cases h2
      rw [hl] at h3
      cases h3
      obtain ⟨a5, c5, e5, k1, k2, k3, k4, k5, -⟩ := ho.open
      simp only [Value.slice.injEq, true_and] at e5
      obtain ⟨rfl, rfl⟩ := e5
      have hWq := hq0.2
      have hgl := H.r0.lt
      have hml := H.mp.lt
      refine ⟨hd, rfl, k1.only hO fun ad e => Or.inr fun hh => ?_, k2, k3, fun ad e => ?_⟩
      · have := (k5 ad e).1
        omega
      · have h1 := (k5 ad e).1
        have h4 := (k5 ad e).2.2.2
        have hwW := H.below.size
        refine ⟨⟨by omega, Nat.lt_of_lt_of_le h4 hO.size⟩, by omega, fun e' => ?_, by omega⟩
        rw [hv] at e'
        have := Option.some.inj e'
        omega
    · rw [List.getElem?_set_ne hij] at h2
      obtain ⟨q1, q2, q3, q4, q5, q6⟩ := H1.new i y l (by omega) h2 h3
      exact ⟨q1, q2, q3.only hO (fun ad e => Or.inr fun hh => (q6 ad e).2.2.1 (by rw [hv, hh])), q4, q5, fun ad e => ⟨⟨(q6 ad e).1.1, Nat.lt_of_lt_of_le (q6 ad e).1.2 hO.size⟩, (q6 ad e).2⟩⟩
theorem ClAt.start {y1 y2 : World} (H : BAt F g m v es s (32 * s.L.length) (balF s) w) (h1 : Below w.heap.size w y1) (ho : OwnsG GEn w.heap.size v' es y1) (h2 : Below y1.heap.size y1 y2) (hm : OwnM y1.heap.size (32 * s.L.length) (balF s) y2) :
    ClAt F w g m v es s y2.heap.size y1.heap.size v' es 0 (y2.alloc (Obj.cells #[v', .map (some y1.heap.size)] 63)) := by
  have hA : Below y2.heap.size y2 (y2.alloc (Obj.cells #[v', .map (some y1.heap.size)] 63)) := (Below.refl _ _).alloc (Nat.le_refl _) _
  have hlt := hm.lt
  have h3 := h1.size
  refine ⟨((H.up h1).up h2).up hA, Row.new y2 [v', .map (some y1.heap.size)] _, (ho.up h2).up hA, hm.up hA, by omega, ⟨h3, by omega⟩, fun q hq => ?_, H.le, fun i _ => rfl, fun i x ls h => absurd h (Nat.not_lt_zero _), (h1.trans (h2.mono h3)).trans (hA.mono (by omega)), H.lt, H.kin.s1⟩
  have := (World.ownsRow.lt ho q hq).2
  omega
theorem ClAt.entry (H : ClAt F w g m v es s g' m' v' es' j W) (hj : j < s.L.length) : ∃ q c x ls, v' = .slice (some ⟨q, 0, none⟩) s.L.length c ∧ es'[j]? = some x ∧ s.L[j]? = some ls ∧ s.done[j]? = some x.d ∧ x.n = ls.length ∧ LinesAt W x.a x.n ls ∧ OkE ls ∧ W.cell? ⟨q, j * 2, none⟩ = some (.slice x.a x.n x.c) ∧ ∀ i, W.frozen? ⟨q, i, none⟩ = false := by
  obtain ⟨_, _, x, ls, -, -, -, -, hx, hl, hm, hd, hxn, hla, -, -, -, -, -⟩ := H.old.entry hj
  have hx' : es'[j]? = some x := by rw [H.rest j (Nat.le_refl _)]; exact hx
  obtain ⟨a, c, h1, h2, h3, h4, h5, h6, h7⟩ := H.ent.open
  obtain ⟨b, off, y, rfl, hy, -, hc⟩ := h2.get (j := j) (by rw [H.len]; exact hj)
  obtain ⟨g1, g2, g3, g4⟩ := h6 _ rfl
  simp only at g2
  subst g2
  rw [hx'] at hy
  cases hy
  rw [H.len] at h1
  have c0 := hc 0 _ rfl
  rw [show GEn.k = 2 from rfl, Nat.zero_add, Nat.add_zero] at c0
  exact ⟨b, c, x, ls, h1, hx', hl, hd, hxn, hla, H.old.ok ls hm, c0, fun i => h7 _ i rfl⟩
/-- at the end -/
theorem ClAt.done (H : ClAt F w g m v es s g' m' v' es' s.L.length W) (T : Kin w) : BB (fun k => w.heap.size ≤ k ∧ k < W.heap.size) ⟨g', 0, none⟩ s W := by
  refine ⟨g', m', v', es', rfl, H.r0, ?_, H.len, H.old.ld, fun i x ls h1 h2 => ?_, H.mp, ⟨H.hg, H.r0.lt⟩, ⟨⟨H.hm.1, H.mp.lt⟩, H.hm.2⟩, fun q hq => ⟨World.ownsRow.lt H.ent q hq, H.hv q hq⟩, fun k hk => hk.2, fun k hk => Nat.lt_of_lt_of_le T.s1 hk.1, H.old.kin, H.old.big, H.old.ok⟩
  · exact H.ent.mono (Nat.zero_le _)
  · have hi := (List.getElem?_eq_some_iff.1 h2).1
    exact H.new i x ls hi h1 h2
end

theorem build_book2 (a : Option Addr) (n c m : Nat) (w : World) : (Instr.build 63 #[(0, .slice a n c), (1, .map (some m))]).run Tryd.prog w = .ok (.agg #[.slice a n c, .map (some m)]) w := run_build w 63 _ _ (by kernel_rfl)

set_option maxRecDepth 100000 in
set_option maxHeartbeats 8000000 in
theorem clone10_any {F : Nat → Prop} {g m : Nat} {v : Value} {es : List En} {s : Bk} (w : World) (H : BAt F g m v es s (32 * s.L.length) (balF s) w) :
    Calls Tryd.prog 25 #[.pointer (some ⟨g, 0, none⟩)] w fun e w' => Below w.heap.size w w' ∧ ∃ q G, e = .returned (.pointer (some q)) ∧ BB G q s w' ∧ ∀ k, G k → w.heap.size ≤ k := by
  have hbb := build_book2
  obtain ⟨a, c, rfl, hc1, hc2, -⟩ := H.slice
  have HH := Lib.hid H
  have HBIG := Lib.hid H.big
  obtain ⟨c0, c1⟩ := H.cells
  have HE := Lib.hid (cloneEn_any 0 (.slice a s.L.length c) es w.drew (H.up (Below.refl _ _).drew).ent (by rw [H.le]; have := H.big; omega))
  clear H
  go_enter Tryd.func25, Tryd.ntmps25
  go_wp2_with fail
  go_region_law (first
    | (go_simp; go_at_call 44; refine HE.out.mono ?_; rintro e y1 ⟨v1, rfl, ho1, hb1⟩
       have hB1 : Below w.heap.size w y1 := (Below.refl w.heap.size w).drew.trans hb1
       have HB1 := Lib.hid hB1
       obtain ⟨a1, k1, hv1, -⟩ := ho1.open
       rw [HH.out.le] at hv1
       subst hv1
       have HO1 := Lib.hid ho1
       have e1 : y1.cell? ⟨g, 1, none⟩ = some (.map (some m)) := (HH.out.up hB1).cells.2
       have HM := Lib.hid (cloneMap_any m (32 * s.L.length) (balF s) y1 (HH.out.up hB1).mp)
       clear ho1 hb1 hB1)
    | (go_simp; go_at_call 45; refine HM.out.mono ?_; rintro e y2 ⟨rfl, hm2, hb2⟩
       have HB2 := Lib.hid hb2
       have HM2 := Lib.hid hm2
       clear hm2 hb2))
  all_goals
    have HX := Lib.hid (ClAt.start HH.out HB1.out HO1.out HB2.out HM2.out)
    generalize y2.alloc (Obj.cells #[.slice a1 s.L.length k1, .map (some y1.heap.size)] 63) = W0 at HX ⊢
    generalize y2.heap.size = g' at HX ⊢
    generalize y1.heap.size = m' at HX ⊢
    clear HB1 HO1 HB2 HM2 HM e1
    have d0 := HX.out.cell
    go_wp2_with fail
    go_loopw [22] (fun i wr => ∃ (j : Nat) (es' : List En), i = .int .i64 (j : Int) ∧ j ≤ s.L.length ∧ Hid (ClAt F w g m (.slice a s.L.length c) es s g' m' (.slice a1 s.L.length k1) es' j wr)) (fun i _ => s.L.length - (RowKit.intOf i).toNat)
    case atStart => exact ⟨0, es, rfl, Nat.zero_le _, HX⟩
    case round =>
      obtain ⟨j, es', rfl, hj, hX⟩ := hrel
      clear d0 HX
      by_cases hlt : j < s.L.length
      · have u1 : (j : Int) < (s.L.length : Int) := by omega
        have hbig : s.L.length ≤ 4096 := HBIG.out
        obtain ⟨q, c', x, ls, hv', hx, hl, hd, hxn, hla, hok, e0, fz⟩ := hX.out.entry hlt
        simp only [Value.slice.injEq, true_and] at hv'
        obtain ⟨rfl, rfl⟩ := hv'
        have d0 := hX.out.cell
        have HCLN : Hid (Calls Tryd.prog 31 #[.slice x.a x.n x.c] wr.drew fun e w' => ∃ v, e = .returned v ∧ OwnsL wr.heap.size v ls w' ∧ Below wr.heap.size wr.drew w') :=
          cloneLn_any x.a x.n x.c ls wr.drew (hla.up (Below.refl _ _).drew) (by rw [hxn]; exact hok.1) (by rw [hxn]; have := hok.2.1; omega)
        have HST := Lib.hid (fun (y1 : World) (a4 : Option Addr) (c4 : Nat) (hb : Below wr.heap.size wr y1) (ho : OwnsL wr.heap.size (.slice a4 ls.length c4) ls y1) => hX.out.step hb ho rfl hx hl hd)
        have fz0 := fz (j * 2)
        obtain ⟨xa, xn, xc, xd⟩ := x
        simp only at HCLN HST e0
        clear hx hl hd hxn hla hok fz
        go_wp2_with fail
        go_region_law (go_simp; go_at_call 31; refine HCLN.out.mono ?_; rintro e y1 ⟨v1, rfl, ho1, hby⟩
                       obtain ⟨a4, c4, rfl, -, -, -, -, -, -⟩ := ho1.open
                       have hB1 : Below wr.heap.size wr y1 := (Below.refl wr.heap.size wr).drew.trans hby
                       have HN := Lib.hid (HST.out y1 a4 c4 hB1 ho1)
                       have HY := Lib.hid (hX.out.up hB1)
                       have d0' := HY.out.cell
                       have e0' : y1.cell? ⟨q, j * 2, none⟩ = some (.slice xa xn xc) := (hB1.cell (p := ⟨q, j * 2, none⟩) (cell_lt e0)).trans e0
                       have fz1 : y1.frozen? ⟨q, j * 2, none⟩ = false := (hB1.frozen (p := ⟨q, j * 2, none⟩) (cell_lt e0)).trans fz0
                       clear ho1 hby hB1)
        all_goals
          go_wp2_with fail
          go_roundw
          case rel => exact ⟨j + 1, _, by go_num, by omega, HN⟩
          case measure => simp [RowKit.intOf]; omega
      · have u1 : ¬ (j : Int) < (s.L.length : Int) := by omega
        obtain rfl : j = s.L.length := by omega
        go_wp2_with fail
        go_ret
        exact ⟨hX.out.below, _, rfl, _, hX.out.done HH.out.kin, fun k hk => hk.1⟩
end Go.Proofs.YtcdkgfjjgebcnaaDoor

/- The landed package book: Trial. -/
namespace Go.Proofs.YtcdkgfjjgebcnaaDoor
open Go Go.RowKit
set_option linter.unusedVariables false

/-- no two of an account -/
def Dis (l : List Ln) : Prop := l.Pairwise fun x y => ¬ (x.k = y.k ∧ x.o = y.o)
/-- the lines told so far -/
structure TrAt (w : World) (m r N : Nat) (f : Int → Int → Option Int) (left : Int → Int → Bool) (cnt : Nat) (v : Value) (ls : List Ln) (W : World) : Prop where
  rg : RangeM m r N f left cnt W
  own : OwnsL w.heap.size v ls W
  ne : v.ownBlock ≠ some r
  ml : m < w.heap.size
  below : Below w.heap.size w W
  mem : ∀ x : Ln, x ∈ ls ↔ in64 x.k ∧ in64 x.o ∧ f x.k x.o = some x.v ∧ left x.k x.o = false
  dis : Dis ls
  many : ls.length + cnt ≤ N
section
variable {w : World} {m r N cnt : Nat} {f : Int → Int → Option Int} {left : Int → Int → Bool} {v : Value} {ls : List Ln} {W W' : World}
theorem TrAt.up (H : TrAt w m r N f left cnt v ls W) (hb : Below W.heap.size W W') : TrAt w m r N f left cnt v ls W' :=
  ⟨H.rg.up hb, ownsL_up H.own hb, H.ne, H.ml, H.below.trans (hb.mono H.below.size), H.mem, H.dis, H.many⟩
theorem TrAt.next {k o : Int} {cnt' : Nat} (H : TrAt w m r N f left cnt v ls W) (hrg : RangeM m r N f (struck left k o) cnt' W') (ho : Only (fun k => k = r) W W') (hr : w.heap.size ≤ r) :
    OwnsL w.heap.size v ls W' ∧ Below w.heap.size w W' := by
  refine ⟨?_, H.below.trans (ho.below H.below.size fun k hk => by rw [hk]; exact hr)⟩
  have hl := fun q hq => (World.ownsRow.lt H.own q hq).2
  obtain ⟨h1, h2⟩ := H.own
  refine ⟨h1, ?_⟩
  rcases h2 with h2 | ⟨g, cap, cur, e, hg, hh, rest⟩
  · exact Or.inl h2
  · have hv : v.ownBlock = some g := by rw [e]; rfl
    exact Or.inr ⟨g, cap, cur, e, hg, by rw [ho.block g (hl g hv) (fun e' => H.ne (by rw [hv, e']))]; exact hh, rest⟩
theorem TrAt.grow {left' : Int → Int → Bool} {cnt' : Nat} {W2 w5 : World} {v5 : Value} {y : Ln} (H : TrAt w m r N f left cnt v ls W) (rg : RangeM m r N f left' cnt' W2) (hb : Below w.heap.size w W2) (o5 : OwnsL w.heap.size v5 (ls ++ [y]) w5)
    (q5 : W2.grownBy w5 v.ownBlock) (l5 : v5.ownBlock = v.ownBlock ∨ v5.ownBlock = some W2.heap.size) (hm : (∀ x : Ln, x ∈ ls ++ [y] ↔ in64 x.k ∧ in64 x.o ∧ f x.k x.o = some x.v ∧ left' x.k x.o = false) ∧ Dis (ls ++ [y])) (hc : cnt' < cnt) : TrAt w m r N f left' cnt' v5 (ls ++ [y]) w5 := by
  have hvb : ∀ k, v.ownBlock = some k → w.heap.size ≤ k := fun k hk => (World.ownsRow.lt H.own k hk).1
  have hrl := rg.lt
  have hml := H.ml
  have ho : Only (fun k => v.ownBlock = some k) W2 w5 := ⟨q5.os, q5.tape, q5.output, q5.size, fun k hk hF => q5.block k hk fun e => hF e.symm⟩
  refine ⟨rg.only ho (fun e => by have := hvb m e; omega) H.ne, o5, fun e => ?_, H.ml, hb.trans (ho.below hb.size hvb), hm.1, hm.2, ?_⟩
  · rcases l5 with l5 | l5
    · rw [l5] at e; exact H.ne e
    · rw [l5] at e
      have := Option.some.inj e
      omega
  · have := H.many
    rw [List.length_append, List.length_singleton]
    omega
end
theorem mem_step {f : Int → Int → Option Int} {left : Int → Int → Bool} {ls : List Ln} {k o v : Int} (hm : ∀ x : Ln, x ∈ ls ↔ in64 x.k ∧ in64 x.o ∧ f x.k x.o = some x.v ∧ left x.k x.o = false) (hk : in64 k) (ho : in64 o) (hf : f k o = some v) (hl : left k o = true) (hd : Dis ls) :
    (∀ x : Ln, x ∈ ls ++ [⟨k, o, v⟩] ↔ in64 x.k ∧ in64 x.o ∧ f x.k x.o = some x.v ∧ struck left k o x.k x.o = false) ∧ Dis (ls ++ [⟨k, o, v⟩]) := by
  constructor
  · intro x
    rw [List.mem_append, List.mem_singleton, hm]
    unfold struck
    by_cases e : x.k = k ∧ x.o = o
    · rw [decide_eq_true e]
      simp only [Bool.not_true, Bool.and_false, and_true]
      obtain ⟨e1, e2⟩ := e
      rw [e1, e2, hf]
      constructor
      · rintro (⟨_, _, _, h⟩ | rfl)
        · rw [hl] at h; cases h
        · exact ⟨hk, ho, rfl⟩
      · rintro ⟨_, _, h⟩
        right
        obtain ⟨xk, xo, xv⟩ := x
        simp only at e1 e2 h
        cases h
        rw [e1, e2]
    · rw [decide_eq_false e]
      simp only [Bool.not_false, Bool.and_true]
      constructor
      · rintro (h | rfl)
        · exact h
        · exact absurd ⟨rfl, rfl⟩ e
      · exact Or.inl
  · unfold Dis
    rw [List.pairwise_append]
    refine ⟨hd, List.pairwise_singleton _ _, fun x hx y hy => ?_⟩
    rw [List.mem_singleton.1 hy]
    rintro ⟨e1, e2⟩
    have := ((hm x).1 hx).2.2.2
    rw [e1, e2] at this
    simp only at this
    rw [hl] at this
    cases this
theorem balL_far {l : List Ln} (h : OkL l) {k o : Int} (hk : ¬ (in64 k ∧ in64 o)) : balL k o l = 0 := by
  by_cases e : balL k o l = 0
  · exact e
  · obtain ⟨x, hx, h1, h2⟩ := balL_mem e
    have := h x hx
    exact absurd ⟨h1 ▸ this.1, h2 ▸ this.2.1⟩ hk
theorem okL_all {s : Bk} (h : ∀ l ∈ s.L, OkE l) : OkL (allL s.L) := by
  have : ∀ L : List (List Ln), (∀ l ∈ L, OkE l) → OkL (allL L) := by
    intro L
    induction L with
    | nil => intro _ x hx; cases hx
    | cons a L ih =>
      intro h x hx
      simp only [allL, List.mem_append] at hx
      rcases hx with hx | hx
      · exact (h a (by simp)).2.2.1 x hx
      · exact ih (fun l hl => h l (by simp [hl])) x hx
  exact this _ h
/-- what was told, sorted, is the trial -/
theorem trial_of {s : Bk} (hok : ∀ l ∈ s.L, OkE l) {ls t : List Ln} (hm : ∀ x : Ln, x ∈ ls ↔ in64 x.k ∧ in64 x.o ∧ balF s x.k x.o = some x.v) (hd : Dis ls) (hp : ls.Perm t) (hs : t.Pairwise fun x y => ¬ LessK y.k y.o x.k x.o) : Trial s.bal t := by
  constructor
  · have hd' : Dis t := (hp.pairwise_iff (fun {x y} h e => h ⟨e.1.symm, e.2.symm⟩)).1 hd
    refine (hs.and hd').imp fun {x y} h => ?_
    obtain ⟨h1, h2⟩ := h
    unfold Before LessK at *
    omega
  · intro x
    rw [← hp.mem_iff, hm]
    by_cases hx : in64 x.k ∧ in64 x.o
    · unfold balF
      by_cases h0 : s.bal x.k x.o = 0
      · rw [if_pos h0, h0]
        constructor
        · rintro ⟨_, _, h⟩; cases h
        · rintro ⟨h1, h2⟩; exact absurd h1 h2
      · rw [if_neg h0]
        constructor
        · rintro ⟨_, _, h⟩
          have := Option.some.inj h
          exact ⟨this.symm, by rw [← this]; exact h0⟩
        · rintro ⟨h1, _⟩
          exact ⟨hx.1, hx.2, by rw [h1]⟩
    · have h0 : s.bal x.k x.o = 0 := balL_far (okL_all hok) hx
      rw [h0]
      constructor
      · rintro ⟨h1, h2, _⟩; exact absurd ⟨h1, h2⟩ hx
      · rintro ⟨h1, h2⟩; exact absurd h1 h2

theorem build_ln10 (k o v : Int) (w : World) : (Instr.build 56 #[(0, .agg #[.int .i64 k, .int .i64 o]), (1, .int .i64 v)]).run Tryd.prog w = .ok (.agg #[.int .i64 k, .int .i64 o, .int .i64 v]) w := run_build w 56 _ _ (by kernel_rfl)
theorem one_ln (w : World) (k o v : Int) : LinesAt (w.alloc (Obj.cells #[.int .i64 k, .int .i64 o, .int .i64 v] 56)) (some ⟨w.heap.size, 0, none⟩) 1 [⟨k, o, v⟩] := by
  refine ⟨rfl, Or.inr ⟨_, 0, rfl, fun j x hj => ?_⟩⟩
  match j with
  | 0 => simp only [List.getElem?_cons_zero, Option.some.injEq] at hj; subst hj; exact ⟨by simp, by simp, by simp⟩
  | (j + 1) => simp at hj

set_option maxRecDepth 100000 in
set_option maxHeartbeats 8000000 in
theorem trial10_any {F : Nat → Prop} {g m : Nat} {v : Value} {es : List En} {s : Bk} (w : World) (H : BAt F g m v es s (32 * s.L.length) (balF s) w) :
    Calls Tryd.prog 18 #[.pointer (some ⟨g, 0, none⟩)] w fun e w' => Below w.heap.size w w' ∧ ∃ v t, e = .returned v ∧ OwnLn w.heap.size v t w' ∧ Trial s.bal t := by
  obtain ⟨i0, hi, hz⟩ := Option.map_eq_some_iff.1 info_ln
  simp only [Prod.mk.injEq] at hz
  obtain ⟨z1, z2, z3⟩ := hz
  have hbl := build_ln10
  obtain ⟨c0, c1⟩ := H.cells
  have HH := Lib.hid H
  have HBIG := Lib.hid H.big
  obtain ⟨c, hcn, hlen⟩ := H.mp.len (w := w) 3
  have HCN := Lib.hid hcn
  clear H hcn
  go_enter Tryd.func18, Tryd.ntmps18
  have HC1 : Hid (∀ W, Below w.heap.size w W → W.cell? ⟨g, 1, none⟩ = some (.map (some m))) := fun W hb => (HH.out.up hb).cells.2
  go_wp2_with (first
    | (at_make; refine wpList_make_own _ rfl _ _ 35 rfl w.heap.size 56 i0 _ 3 Tryd.underlying35 hi z1 z2 .i64 .i64 _ c rfl rfl rfl (by have h1 := HCN.out; have h2 := HBIG.out; rw [z3]; omega) (by have h1 := HCN.out; have h2 := HBIG.out; unfold maxLen; omega) (Nat.le_refl _) ?_; intro w1 o1 q1
       have hb1 : Below w.heap.size w w1 := (Below.refl _ _).grown q1 (Nat.le_refl _) (fun k hk => by cases hk)
       have HO1 : Hid (OwnsL w.heap.size (.slice (some ⟨w.heap.size, 0, none⟩) 0 c) [] w1) := o1
       have HB1 := Lib.hid hb1
       have d1 : w1.cell? ⟨g, 1, none⟩ = some (.map (some m)) := HC1.out w1 hb1
       have HM1 := Lib.hid (HH.out.mp.up hb1)
       have HL1 := Lib.hid ((World.ownsRow.lt o1 w.heap.size rfl).2)
       clear o1 q1 hb1 c0 c1 hlen)
    | (at_range; refine wpList_range10 rfl _ rfl m (32 * s.L.length) (balF s) rfl HM1.out ?_; intro w2 c2 hrg2 hc2 hb2))
  have HX : Hid (TrAt w m w1.heap.size (32 * s.L.length) (balF s) (fun k o => (balF s k o).isSome) c2 (.slice (some ⟨w.heap.size, 0, none⟩) 0 c) [] w2) := by
    refine ⟨hrg2, ownsL_up HO1.out hb2, fun e => ?_, HH.out.lt m HH.out.fm.1, HB1.out.trans (hb2.mono HB1.out.size), fun x => ?_, List.Pairwise.nil, by simp; exact hc2⟩
    · have h1 := HL1.out
      have h2 : w.heap.size = w1.heap.size := Option.some.inj e
      omega
    · constructor
      · intro h; cases h
      · rintro ⟨_, _, h1, h2⟩
        have h3 : (balF s x.k x.o).isSome = false := h2
        rw [h1] at h3; cases h3
  have HR : Hid (w.heap.size ≤ w1.heap.size) := HB1.out.size
  obtain ⟨r, hr⟩ : ∃ r, w1.heap.size = r := ⟨_, rfl⟩
  rw [hr] at HX HR ⊢
  clear hrg2 hb2 hr d1
  go_frame
  go_loopw [3] (fun tv wr => ∃ (left : Int → Int → Bool) (cnt : Nat) (ls : List Ln), Hid (TrAt w m r (32 * s.L.length) (balF s) left cnt tv ls wr)) (fun _ wr => wr.rangeLeft m r)
  case atStart => exact ⟨_, c2, [], HX⟩
  case round =>
    obtain ⟨left, cnt, ls, hX⟩ := hrel
    go_wp2_with (at_next; refine wpList_next10 rfl _ rfl m r (32 * s.L.length) cnt (balF s) left rfl hX.out.rg ?_ ?_)
    · intro hc0 hl0
      have HT := Lib.hid (hX.out.own)
      have HTR : Hid (∀ t, ls.Perm t → t.Pairwise (fun x y => ¬ LessK y.k y.o x.k x.o) → Trial s.bal t) := fun t hp hs => by
        refine trial_of HH.out.ok (fun x => ?_) hX.out.dis hp hs
        rw [hX.out.mem]
        constructor
        · rintro ⟨h1, h2, h3, _⟩; exact ⟨h1, h2, h3⟩
        · rintro ⟨h1, h2, h3⟩; exact ⟨h1, h2, h3, hl0 _ _ h1 h2⟩
      clear hl0
      go_wp2_with fail
      refine (sort10_any w.heap.size _ ls wr HT.out (by have h1 := hX.out.many; have h2 := HBIG.out; omega)).mono ?_
      rintro e w5 ⟨rfl, ho5, t, hp, hs, hO⟩
      have HB5 := Lib.hid (hX.out.below.trans (ho5.below hX.out.below.size fun k hk => (World.ownsRow.lt HT.out k hk).1))
      have HO5 := Lib.hid hO
      have HT5 := Lib.hid (HTR.out t hp hs)
      clear ho5 hp hs hO
      go_wp2_with fail
      go_ret
      exact ⟨HB5.out, _, t, rfl, HO5.out, HT5.out⟩
    · intro k o x w3 c3 hk ho hx hlk hf hrg hlt hgr hen
      obtain ⟨g1, g2⟩ := hX.out.next hrg hgr HR.out
      obtain ⟨m1, m2⟩ := mem_step hX.out.mem hk ho hf hlk hX.out.dis
      obtain ⟨W1, hW1⟩ : ∃ W1, w3.alloc (Obj.cells #[.int .i64 k, .int .i64 o] 24) = W1 := ⟨_, rfl⟩
      have hA : Below w3.heap.size w3 W1 := by rw [← hW1]; exact (Below.refl _ _).alloc (Nat.le_refl _) _
      obtain ⟨bx, hbx⟩ : ∃ bx, w3.heap.size = bx := ⟨_, rfl⟩
      have b0 : W1.cell? ⟨bx, 0, none⟩ = some (.int .i64 k) := by rw [← hW1, ← hbx]; simp
      have b1 : W1.cell? ⟨bx, 1, none⟩ = some (.int .i64 o) := by rw [← hW1, ← hbx]; simp
      obtain ⟨W2, hW2⟩ : ∃ W2, W1.alloc (Obj.cells #[.int .i64 k, .int .i64 o, .int .i64 x] 56) = W2 := ⟨_, rfl⟩
      have hA2 : Below W1.heap.size W1 W2 := by rw [← hW2]; exact (Below.refl _ _).alloc (Nat.le_refl _) _
      have hlt2 : W1.heap.size < W2.heap.size := by rw [← hW2]; simp
      have HLT2 := Lib.hid hlt2
      have hone : LinesAt W2 (some ⟨W1.heap.size, 0, none⟩) 1 [⟨k, o, x⟩] := by rw [← hW2]; exact one_ln W1 k o x
      obtain ⟨by2, hby⟩ : ∃ by2, W1.heap.size = by2 := ⟨_, rfl⟩
      have HON : Hid (LinesAt W2 (some ⟨by2, 0, none⟩) 1 [⟨k, o, x⟩]) := by rw [← hby]; exact hone
      have HOW : Hid (OwnsL w.heap.size _ ls W2) := ownsL_up (ownsL_up g1 hA) hA2
      have HBW : Hid (Below w.heap.size w W2) := (g2.trans (hA.mono g2.size)).trans (hA2.mono (Nat.le_trans g2.size hA.size))
      have HRG := Lib.hid ((hrg.up hA).up hA2)
      have HME := Lib.hid (And.intro m1 m2)
      have HCT := Lib.hid hlt
      have HRL := Lib.hid (hrg.up hA).lt
      clear g1 g2 m1 m2 hA hA2 hone hlt2 hrg hgr hk ho hx hlk hf hlt
      go_wp2_with (first
        | (at_builtin; try rw [hbx]
           refine wpList_append_ln rfl (.tmp 22) (.tmp 26) rfl w.heap.size _ ls rfl HOW.out (some ⟨by2, 0, none⟩) 1 1 [⟨k, o, x⟩] rfl (fun h => by cases h) HON.out (by have h1 := hX.out.many; have h2 := HBIG.out; omega) HBW.out.size ?_
           intro v5 w5 o5 q5 r5 l5))
      have HN := Lib.hid (hX.out.grow HRG.out HBW.out o5 q5 l5 HME.out HCT.out)
      have hct := HCT.out
      exact ⟨⟨_, c3, _, HN⟩, by rw [HN.out.rg.left_eq, hX.out.rg.left_eq]; exact hct⟩
end Go.Proofs.YtcdkgfjjgebcnaaDoor

/- The landed package book keeps its contract. -/
namespace Go.Proofs.YtcdkgfjjgebcnaaDoor
open Go Go.RowKit
set_option linter.unusedVariables false

theorem plusF_new {F : Nat → Prop} {w W : World} : ∀ k, PlusF F w W k → F k ∨ w.heap.size ≤ k := fun k hk => hk.elim Or.inl fun h => Or.inr h.1

theorem book_holds : BookC BB where
  lt := fun h k hk => by obtain ⟨g, m, v, es, rfl, H⟩ := h; exact H.lt k hk
  kin := fun h => by obtain ⟨g, m, v, es, rfl, H⟩ := h; exact H.kin
  keep := fun h ho hX T => by
    obtain ⟨g, m, v, es, rfl, H⟩ := h
    exact ⟨g, m, v, es, rfl, H.only ho hX T⟩
  new := fun w T => new10_any w T
  post := fun {F p s w} a n c ls h hl hok hx hc hm hn => by
    obtain ⟨g, m, v, es, rfl, H⟩ := h
    refine (post10_any a n c ls w H hl hok hx hc hn).mono ?_
    rintro e w' ⟨hO, ⟨h0, rfl, v', es', hB⟩ | ⟨h0, rfl, hB⟩⟩
    · refine ⟨hO, PlusF F w w', plusF_new, Or.inl ⟨h0, rfl, g, m, v', es', rfl, ?_⟩⟩
      have e : (s.post ls).L.length = s.L.length + 1 := by simp [Bk.post]
      rw [e]
      exact hB
    · exact ⟨hO, F, fun k hk => Or.inl hk, Or.inr ⟨h0, rfl, g, m, v, es, rfl, hB⟩⟩
  reverse := fun {F p s w} n h hn => by
    obtain ⟨g, m, v, es, rfl, H⟩ := h
    refine (reverse10_any n w H hn).mono ?_
    rintro e w' ⟨hO, ⟨h0, rfl, v', es', hB⟩ | ⟨h0, rfl, hB⟩⟩
    · refine ⟨hO, PlusF F w w', plusF_new, Or.inl ⟨h0, rfl, g, m, v', es', rfl, ?_⟩⟩
      have e : (s.rev n).L.length = s.L.length + 1 := by simp [Bk.rev]
      rw [e]
      exact hB
    · exact ⟨hO, F, fun k hk => Or.inl hk, Or.inr ⟨h0, rfl, g, m, v, es, rfl, hB⟩⟩
  balance := fun {F p s w} k o h hk ho => by
    obtain ⟨g, m, v, es, rfl, H⟩ := h
    exact balance10_any k o w H hk ho
  entry := fun {F p s w} n h hn => by
    obtain ⟨g, m, v, es, rfl, H⟩ := h
    exact entry10_any n w H hn
  len := fun {F p s w} h => by
    obtain ⟨g, m, v, es, rfl, H⟩ := h
    refine (len10_any w H).mono ?_
    rintro e w' ⟨rfl, rfl⟩
    exact ⟨Below.refl _ _, rfl⟩
  trial := fun {F p s w} h => by
    obtain ⟨g, m, v, es, rfl, H⟩ := h
    exact trial10_any w H
  clone := fun {F p s w} h => by
    obtain ⟨g, m, v, es, rfl, H⟩ := h
    refine (clone10_any w H).mono ?_
    rintro e w' ⟨hb, q, G, rfl, hB, hG⟩
    exact ⟨hb, q, G, rfl, hB, hG⟩
theorem book_any : ∃ B, BookC B := ⟨BB, book_holds⟩
end Go.Proofs.YtcdkgfjjgebcnaaDoor
