/- The landed package book: Trial. -/
import Derived.Test.YtcdkgfjjgebcnaaDoorBkSettle
import Derived.Test.YtcdkgfjjgebcnaaDoorBkRow
namespace Go.Proofs.YtcdkgfjjgebcnaaDoor
open Go Go.RowKit
set_option linter.unusedVariables false

/-- no two of an account -/
def Dis (l : List Ln) : Prop := l.Pairwise fun x y => ¬ (x.k = y.k ∧ x.o = y.o)
/-- the lines told so far -/
structure TrAt (w : World) (m r N : Nat) (f : Int → Int → Option Int) (left : Int → Int → Bool) (cnt : Nat) (v : Value) (ls : List Ln) (W : World) : Prop where
  rg : RangeM m r N f left cnt W
  own : OwnsL w.heap.size v ls W
  ne : v.ownBlock ≠ some r
  ml : m < w.heap.size
  below : Below w.heap.size w W
  mem : ∀ x : Ln, x ∈ ls ↔ in64 x.k ∧ in64 x.o ∧ f x.k x.o = some x.v ∧ left x.k x.o = false
  dis : Dis ls
  many : ls.length + cnt ≤ N
section
variable {w : World} {m r N cnt : Nat} {f : Int → Int → Option Int} {left : Int → Int → Bool} {v : Value} {ls : List Ln} {W W' : World}
theorem TrAt.up (H : TrAt w m r N f left cnt v ls W) (hb : Below W.heap.size W W') : TrAt w m r N f left cnt v ls W' :=
  ⟨H.rg.up hb, ownsL_up H.own hb, H.ne, H.ml, H.below.trans (hb.mono H.below.size), H.mem, H.dis, H.many⟩
theorem TrAt.next {k o : Int} {cnt' : Nat} (H : TrAt w m r N f left cnt v ls W) (hrg : RangeM m r N f (struck left k o) cnt' W') (ho : Only (fun k => k = r) W W') (hr : w.heap.size ≤ r) :
    OwnsL w.heap.size v ls W' ∧ Below w.heap.size w W' := by
  refine ⟨?_, H.below.trans (ho.below H.below.size fun k hk => by rw [hk]; exact hr)⟩
  have hl := fun q hq => (World.ownsRow.lt H.own q hq).2
  obtain ⟨h1, h2⟩ := H.own
  refine ⟨h1, ?_⟩
  rcases h2 with h2 | ⟨g, cap, cur, e, hg, hh, rest⟩
  · exact Or.inl h2
  · have hv : v.ownBlock = some g := by rw [e]; rfl
    exact Or.inr ⟨g, cap, cur, e, hg, by rw [ho.block g (hl g hv) (fun e' => H.ne (by rw [hv, e']))]; exact hh, rest⟩
theorem TrAt.grow {left' : Int → Int → Bool} {cnt' : Nat} {W2 w5 : World} {v5 : Value} {y : Ln} (H : TrAt w m r N f left cnt v ls W) (rg : RangeM m r N f left' cnt' W2) (hb : Below w.heap.size w W2) (o5 : OwnsL w.heap.size v5 (ls ++ [y]) w5)
    (q5 : W2.grownBy w5 v.ownBlock) (l5 : v5.ownBlock = v.ownBlock ∨ v5.ownBlock = some W2.heap.size) (hm : (∀ x : Ln, x ∈ ls ++ [y] ↔ in64 x.k ∧ in64 x.o ∧ f x.k x.o = some x.v ∧ left' x.k x.o = false) ∧ Dis (ls ++ [y])) (hc : cnt' < cnt) : TrAt w m r N f left' cnt' v5 (ls ++ [y]) w5 := by
  have hvb : ∀ k, v.ownBlock = some k → w.heap.size ≤ k := fun k hk => (World.ownsRow.lt H.own k hk).1
  have hrl := rg.lt
  have hml := H.ml
  have ho : Only (fun k => v.ownBlock = some k) W2 w5 := ⟨q5.os, q5.tape, q5.output, q5.size, fun k hk hF => q5.block k hk fun e => hF e.symm⟩
  refine ⟨rg.only ho (fun e => by have := hvb m e; omega) H.ne, o5, fun e => ?_, H.ml, hb.trans (ho.below hb.size hvb), hm.1, hm.2, ?_⟩
  · rcases l5 with l5 | l5
    · rw [l5] at e; exact H.ne e
    · rw [l5] at e
      have := Option.some.inj e
      omega
  · have := H.many
    rw [List.length_append, List.length_singleton]
    omega
end
theorem mem_step {f : Int → Int → Option Int} {left : Int → Int → Bool} {ls : List Ln} {k o v : Int} (hm : ∀ x : Ln, x ∈ ls ↔ in64 x.k ∧ in64 x.o ∧ f x.k x.o = some x.v ∧ left x.k x.o = false) (hk : in64 k) (ho : in64 o) (hf : f k o = some v) (hl : left k o = true) (hd : Dis ls) :
    (∀ x : Ln, x ∈ ls ++ [⟨k, o, v⟩] ↔ in64 x.k ∧ in64 x.o ∧ f x.k x.o = some x.v ∧ struck left k o x.k x.o = false) ∧ Dis (ls ++ [⟨k, o, v⟩]) := by
  constructor
  · intro x
    rw [List.mem_append, List.mem_singleton, hm]
    unfold struck
    by_cases e : x.k = k ∧ x.o = o
    · rw [decide_eq_true e]
      simp only [Bool.not_true, Bool.and_false, and_true]
      obtain ⟨e1, e2⟩ := e
      rw [e1, e2, hf]
      constructor
      · rintro (⟨_, _, _, h⟩ | rfl)
        · rw [hl] at h; cases h
        · exact ⟨hk, ho, rfl⟩
      · rintro ⟨_, _, h⟩
        right
        obtain ⟨xk, xo, xv⟩ := x
        simp only at e1 e2 h
        cases h
        rw [e1, e2]
    · rw [decide_eq_false e]
      simp only [Bool.not_false, Bool.and_true]
      constructor
      · rintro (h | rfl)
        · exact h
        · exact absurd ⟨rfl, rfl⟩ e
      · exact Or.inl
  · unfold Dis
    rw [List.pairwise_append]
    refine ⟨hd, List.pairwise_singleton _ _, fun x hx y hy => ?_⟩
    rw [List.mem_singleton.1 hy]
    rintro ⟨e1, e2⟩
    have := ((hm x).1 hx).2.2.2
    rw [e1, e2] at this
    simp only at this
    rw [hl] at this
    cases this
theorem balL_far {l : List Ln} (h : OkL l) {k o : Int} (hk : ¬ (in64 k ∧ in64 o)) : balL k o l = 0 := by
  by_cases e : balL k o l = 0
  · exact e
  · obtain ⟨x, hx, h1, h2⟩ := balL_mem e
    have := h x hx
    exact absurd ⟨h1 ▸ this.1, h2 ▸ this.2.1⟩ hk
theorem okL_all {s : Bk} (h : ∀ l ∈ s.L, OkE l) : OkL (allL s.L) := by
  have : ∀ L : List (List Ln), (∀ l ∈ L, OkE l) → OkL (allL L) := by
    intro L
    induction L with
    | nil => intro _ x hx; cases hx
    | cons a L ih =>
      intro h x hx
      simp only [allL, List.mem_append] at hx
      rcases hx with hx | hx
      · exact (h a (by simp)).2.2.1 x hx
      · exact ih (fun l hl => h l (by simp [hl])) x hx
  exact this _ h
/-- what was told, sorted, is the trial -/
theorem trial_of {s : Bk} (hok : ∀ l ∈ s.L, OkE l) {ls t : List Ln} (hm : ∀ x : Ln, x ∈ ls ↔ in64 x.k ∧ in64 x.o ∧ balF s x.k x.o = some x.v) (hd : Dis ls) (hp : ls.Perm t) (hs : t.Pairwise fun x y => ¬ LessK y.k y.o x.k x.o) : Trial s.bal t := by
  constructor
  · have hd' : Dis t := (hp.pairwise_iff (fun {x y} h e => h ⟨e.1.symm, e.2.symm⟩)).1 hd
    refine (hs.and hd').imp fun {x y} h => ?_
    obtain ⟨h1, h2⟩ := h
    unfold Before LessK at *
    omega
  · intro x
    rw [← hp.mem_iff, hm]
    by_cases hx : in64 x.k ∧ in64 x.o
    · unfold balF
      by_cases h0 : s.bal x.k x.o = 0
      · rw [if_pos h0, h0]
        constructor
        · rintro ⟨_, _, h⟩; cases h
        · rintro ⟨h1, h2⟩; exact absurd h1 h2
      · rw [if_neg h0]
        constructor
        · rintro ⟨_, _, h⟩
          have := Option.some.inj h
          exact ⟨this.symm, by rw [← this]; exact h0⟩
        · rintro ⟨h1, _⟩
          exact ⟨hx.1, hx.2, by rw [h1]⟩
    · have h0 : s.bal x.k x.o = 0 := balL_far (okL_all hok) hx
      rw [h0]
      constructor
      · rintro ⟨h1, h2, _⟩; exact absurd ⟨h1, h2⟩ hx
      · rintro ⟨h1, h2⟩; exact absurd h1 h2

theorem build_ln10 (k o v : Int) (w : World) : (Instr.build 56 #[(0, .agg #[.int .i64 k, .int .i64 o]), (1, .int .i64 v)]).run Tryd.prog w = .ok (.agg #[.int .i64 k, .int .i64 o, .int .i64 v]) w := run_build w 56 _ _ (by kernel_rfl)
theorem one_ln (w : World) (k o v : Int) : LinesAt (w.alloc (Obj.cells #[.int .i64 k, .int .i64 o, .int .i64 v] 56)) (some ⟨w.heap.size, 0, none⟩) 1 [⟨k, o, v⟩] := by
  refine ⟨rfl, Or.inr ⟨_, 0, rfl, fun j x hj => ?_⟩⟩
  match j with
  | 0 => simp only [List.getElem?_cons_zero, Option.some.injEq] at hj; subst hj; exact ⟨by simp, by simp, by simp⟩
  | (j + 1) => simp at hj

set_option maxRecDepth 100000 in
set_option maxHeartbeats 8000000 in
theorem trial10_any {F : Nat → Prop} {g m : Nat} {v : Value} {es : List En} {s : Bk} (w : World) (H : BAt F g m v es s (32 * s.L.length) (balF s) w) :
    Calls Tryd.prog 18 #[.pointer (some ⟨g, 0, none⟩)] w fun e w' => Below w.heap.size w w' ∧ ∃ v t, e = .returned v ∧ OwnLn w.heap.size v t w' ∧ Trial s.bal t := by
  obtain ⟨i0, hi, hz⟩ := Option.map_eq_some_iff.1 info_ln
  simp only [Prod.mk.injEq] at hz
  obtain ⟨z1, z2, z3⟩ := hz
  have hbl := build_ln10
  obtain ⟨c0, c1⟩ := H.cells
  have HH := Lib.hid H
  have HBIG := Lib.hid H.big
  obtain ⟨c, hcn, hlen⟩ := H.mp.len (w := w) 3
  have HCN := Lib.hid hcn
  clear H hcn
  go_enter Tryd.func18, Tryd.ntmps18
  have HC1 : Hid (∀ W, Below w.heap.size w W → W.cell? ⟨g, 1, none⟩ = some (.map (some m))) := fun W hb => (HH.out.up hb).cells.2
  go_wp2_with (first
    | (at_make; refine wpList_make_own _ rfl _ _ 35 rfl w.heap.size 56 i0 _ 3 Tryd.underlying35 hi z1 z2 .i64 .i64 _ c rfl rfl rfl (by have h1 := HCN.out; have h2 := HBIG.out; rw [z3]; omega) (by have h1 := HCN.out; have h2 := HBIG.out; unfold maxLen; omega) (Nat.le_refl _) ?_; intro w1 o1 q1
       have hb1 : Below w.heap.size w w1 := (Below.refl _ _).grown q1 (Nat.le_refl _) (fun k hk => by cases hk)
       have HO1 : Hid (OwnsL w.heap.size (.slice (some ⟨w.heap.size, 0, none⟩) 0 c) [] w1) := o1
       have HB1 := Lib.hid hb1
       have d1 : w1.cell? ⟨g, 1, none⟩ = some (.map (some m)) := HC1.out w1 hb1
       have HM1 := Lib.hid (HH.out.mp.up hb1)
       have HL1 := Lib.hid ((World.ownsRow.lt o1 w.heap.size rfl).2)
       clear o1 q1 hb1 c0 c1 hlen)
    | (at_range; refine wpList_range10 rfl _ rfl m (32 * s.L.length) (balF s) rfl HM1.out ?_; intro w2 c2 hrg2 hc2 hb2))
  have HX : Hid (TrAt w m w1.heap.size (32 * s.L.length) (balF s) (fun k o => (balF s k o).isSome) c2 (.slice (some ⟨w.heap.size, 0, none⟩) 0 c) [] w2) := by
    refine ⟨hrg2, ownsL_up HO1.out hb2, fun e => ?_, HH.out.lt m HH.out.fm.1, HB1.out.trans (hb2.mono HB1.out.size), fun x => ?_, List.Pairwise.nil, by simp; exact hc2⟩
    · have h1 := HL1.out
      have h2 : w.heap.size = w1.heap.size := Option.some.inj e
      omega
    · constructor
      · intro h; cases h
      · rintro ⟨_, _, h1, h2⟩
        have h3 : (balF s x.k x.o).isSome = false := h2
        rw [h1] at h3; cases h3
  have HR : Hid (w.heap.size ≤ w1.heap.size) := HB1.out.size
  obtain ⟨r, hr⟩ : ∃ r, w1.heap.size = r := ⟨_, rfl⟩
  rw [hr] at HX HR ⊢
  clear hrg2 hb2 hr d1
  go_frame
  go_loopw [3] (fun tv wr => ∃ (left : Int → Int → Bool) (cnt : Nat) (ls : List Ln), Hid (TrAt w m r (32 * s.L.length) (balF s) left cnt tv ls wr)) (fun _ wr => wr.rangeLeft m r)
  case atStart => exact ⟨_, c2, [], HX⟩
  case round =>
    obtain ⟨left, cnt, ls, hX⟩ := hrel
    go_wp2_with (at_next; refine wpList_next10 rfl _ rfl m r (32 * s.L.length) cnt (balF s) left rfl hX.out.rg ?_ ?_)
    · intro hc0 hl0
      have HT := Lib.hid (hX.out.own)
      have HTR : Hid (∀ t, ls.Perm t → t.Pairwise (fun x y => ¬ LessK y.k y.o x.k x.o) → Trial s.bal t) := fun t hp hs => by
        refine trial_of HH.out.ok (fun x => ?_) hX.out.dis hp hs
        rw [hX.out.mem]
        constructor
        · rintro ⟨h1, h2, h3, _⟩; exact ⟨h1, h2, h3⟩
        · rintro ⟨h1, h2, h3⟩; exact ⟨h1, h2, h3, hl0 _ _ h1 h2⟩
      clear hl0
      go_wp2_with fail
      refine (sort10_any w.heap.size _ ls wr HT.out (by have h1 := hX.out.many; have h2 := HBIG.out; omega)).mono ?_
      rintro e w5 ⟨rfl, ho5, t, hp, hs, hO⟩
      have HB5 := Lib.hid (hX.out.below.trans (ho5.below hX.out.below.size fun k hk => (World.ownsRow.lt HT.out k hk).1))
      have HO5 := Lib.hid hO
      have HT5 := Lib.hid (HTR.out t hp hs)
      clear ho5 hp hs hO
      go_wp2_with fail
      go_ret
      exact ⟨HB5.out, _, t, rfl, HO5.out, HT5.out⟩
    · intro k o x w3 c3 hk ho hx hlk hf hrg hlt hgr hen
      obtain ⟨g1, g2⟩ := hX.out.next hrg hgr HR.out
      obtain ⟨m1, m2⟩ := mem_step hX.out.mem hk ho hf hlk hX.out.dis
      obtain ⟨W1, hW1⟩ : ∃ W1, w3.alloc (Obj.cells #[.int .i64 k, .int .i64 o] 24) = W1 := ⟨_, rfl⟩
      have hA : Below w3.heap.size w3 W1 := by rw [← hW1]; exact (Below.refl _ _).alloc (Nat.le_refl _) _
      obtain ⟨bx, hbx⟩ : ∃ bx, w3.heap.size = bx := ⟨_, rfl⟩
      have b0 : W1.cell? ⟨bx, 0, none⟩ = some (.int .i64 k) := by rw [← hW1, ← hbx]; simp
      have b1 : W1.cell? ⟨bx, 1, none⟩ = some (.int .i64 o) := by rw [← hW1, ← hbx]; simp
      obtain ⟨W2, hW2⟩ : ∃ W2, W1.alloc (Obj.cells #[.int .i64 k, .int .i64 o, .int .i64 x] 56) = W2 := ⟨_, rfl⟩
      have hA2 : Below W1.heap.size W1 W2 := by rw [← hW2]; exact (Below.refl _ _).alloc (Nat.le_refl _) _
      have hlt2 : W1.heap.size < W2.heap.size := by rw [← hW2]; simp
      have HLT2 := Lib.hid hlt2
      have hone : LinesAt W2 (some ⟨W1.heap.size, 0, none⟩) 1 [⟨k, o, x⟩] := by rw [← hW2]; exact one_ln W1 k o x
      obtain ⟨by2, hby⟩ : ∃ by2, W1.heap.size = by2 := ⟨_, rfl⟩
      have HON : Hid (LinesAt W2 (some ⟨by2, 0, none⟩) 1 [⟨k, o, x⟩]) := by rw [← hby]; exact hone
      have HOW : Hid (OwnsL w.heap.size _ ls W2) := ownsL_up (ownsL_up g1 hA) hA2
      have HBW : Hid (Below w.heap.size w W2) := (g2.trans (hA.mono g2.size)).trans (hA2.mono (Nat.le_trans g2.size hA.size))
      have HRG := Lib.hid ((hrg.up hA).up hA2)
      have HME := Lib.hid (And.intro m1 m2)
      have HCT := Lib.hid hlt
      have HRL := Lib.hid (hrg.up hA).lt
      clear g1 g2 m1 m2 hA hA2 hone hlt2 hrg hgr hk ho hx hlk hf hlt
      go_wp2_with (first
        | (at_builtin; try rw [hbx]
           refine wpList_append_ln rfl (.tmp 22) (.tmp 26) rfl w.heap.size _ ls rfl HOW.out (some ⟨by2, 0, none⟩) 1 1 [⟨k, o, x⟩] rfl (fun h => by cases h) HON.out (by have h1 := hX.out.many; have h2 := HBIG.out; omega) HBW.out.size ?_
           intro v5 w5 o5 q5 r5 l5))
      have HN := Lib.hid (hX.out.grow HRG.out HBW.out o5 q5 l5 HME.out HCT.out)
      have hct := HCT.out
      exact ⟨⟨_, c3, _, HN⟩, by rw [HN.out.rg.left_eq, hX.out.rg.left_eq]; exact hct⟩
end Go.Proofs.YtcdkgfjjgebcnaaDoor
