/- The landed package book: Post. -/
import Derived.Test.YtcdkgfjjgebcnaaDoorBkSettle
import Derived.Test.YtcdkgfjjgebcnaaDoorBkRow
import Derived.Deep.RegionLaw
namespace Go.Proofs.YtcdkgfjjgebcnaaDoor
open Go Go.RowKit
set_option linter.unusedVariables false

theorem mayN_eq (s : Bk) (ls : List Ln) : s.mayN ls = if 4096 ≤ s.L.length then 8 else if checkN ls ≠ 0 then checkN ls else if overL s.bal [] ls = true then 3 else 0 := by
  unfold Bk.mayN checkN
  by_cases h1 : 4096 ≤ s.L.length
  · rw [if_pos h1, if_pos h1]
  · rw [if_neg h1, if_neg h1]
    by_cases h2 : ls.length < 1 ∨ 32 < ls.length
    · rw [if_pos h2, if_pos h2]; rfl
    · rw [if_neg h2, if_neg h2]
      by_cases h3 : ls.any badL = true
      · rw [if_pos h3, if_pos h3]; rfl
      · rw [if_neg h3, if_neg h3]
        by_cases h4 : sumV ls ≠ 0
        · rw [if_pos h4, if_pos h4]; rfl
        · rw [if_neg h4, if_neg h4]; rfl
theorem checkN_len {ls : List Ln} (h : checkN ls = 0) : 1 ≤ ls.length ∧ ls.length ≤ 32 := by
  unfold checkN at h
  split at h
  · cases h
  · omega
theorem over_min {b : Int → Int → Int} : ∀ (pre l : List Ln), overL b pre l = false → ∀ x ∈ l, x.v ≠ -9223372036854775808 := by
  intro pre l
  induction l generalizing pre with
  | nil => intro _ x hx; cases hx
  | cons a l ih =>
    intro h x hx
    simp only [overL, Bool.or_eq_false_iff, decide_eq_false_iff_not] at h
    rcases List.mem_cons.1 hx with rfl | hx
    · exact h.1.2
    · exact ih _ h.2 x hx

/-- F, and what is new since w -/
def PlusF (F : Nat → Prop) (w W : World) : Nat → Prop := fun k => F k ∨ (w.heap.size ≤ k ∧ k < W.heap.size)

/-- an entry stands behind all -/
theorem bat_append {F : Nat → Prop} {g m : Nat} {v : Value} {es : List En} {s : Bk} {N : Nat} {f : Int → Int → Option Int} {w w1 w2 : World} {ls : List Ln} {v2 : Value} {a4 : Option Addr} {c4 : Nat} {o : Obj} (H : BAt F g m v es s N f w)
    (hb1 : Below w.heap.size w w1) (o1 : OwnsL w.heap.size (.slice a4 ls.length c4) ls w1) (hlen : s.L.length < 4096) (hok : OkE ls)
    (hr2 : OwnsG GEn 0 v2 (es ++ [⟨a4, ls.length, c4, false⟩]) w2) (q2 : (w1.alloc o).grownBy w2 v.ownBlock) (l2 : v2.ownBlock = v.ownBlock ∨ v2.ownBlock = some (w1.alloc o).heap.size) :
    BAt (PlusF F w (w2.setCell ⟨g, 0, none⟩ v2)) g m v2 (es ++ [⟨a4, ls.length, c4, false⟩]) (s.post ls) N f (w2.setCell ⟨g, 0, none⟩ v2) ∧ Only F w (w2.setCell ⟨g, 0, none⟩ v2) := by
  have hgl := H.lt g H.fg
  have hsz1 : w.heap.size ≤ w1.heap.size := hb1.size
  have hsz2 : w1.heap.size + 1 ≤ w2.heap.size := by have := q2.size; rwa [World.size_alloc] at this
  have hX1 : Only (fun k => k = g ∨ v.ownBlock = some k) w1 (w2.setCell ⟨g, 0, none⟩ v2) :=
    (((Only.refl (fun k => k = g ∨ v.ownBlock = some k) w1).alloc o).trans ⟨q2.os, q2.tape, q2.output, q2.size, fun k hk hF => q2.block k hk (fun e => hF (Or.inr e.symm))⟩).setCell (p := ⟨g, 0, none⟩) (Or.inl rfl) v2
  have hX : Only (fun k => k = g ∨ v.ownBlock = some k) w (w2.setCell ⟨g, 0, none⟩ v2) := (Only.of_below hb1).trans hX1
  have hXF : Only F w (w2.setCell ⟨g, 0, none⟩ v2) := hX.mono fun k _ hk => hk.elim (fun h => by rw [h]; exact H.fg) fun h => (H.fv k h).1
  have hsame : ∀ k, k < w.heap.size → v.ownBlock ≠ some k → w2.heap[k]? = w.heap[k]? := fun k hk hne => by
    rw [q2.block k (by rw [World.size_alloc]; omega) (fun e => hne e.symm), Below.heap_alloc _ _ _ (by omega), hb1.block k hk]
  have hvg : ∀ k, v2.ownBlock = some k → k ≠ g ∧ k ≠ m := fun k hk => by
    rcases l2 with l2 | l2
    · rw [l2] at hk; exact (H.fv k hk).2
    · have hml := H.lt m H.fm.1
      rw [l2, World.size_alloc] at hk; cases hk; omega
  have hszf : (w2.setCell ⟨g, 0, none⟩ v2).heap.size = w2.heap.size := by simp [World.setCell]
  have hkin : Kin (w2.setCell ⟨g, 0, none⟩ v2) := by
    exact H.kin.only hXF fun hk => Nat.lt_irrefl _ (H.low _ hk)
  obtain ⟨a5, c5, e5, k1, k2, k3, k4, k5, -⟩ := o1.open
  simp only [Value.slice.injEq, true_and] at e5
  obtain ⟨rfl, rfl⟩ := e5
  refine ⟨⟨?_, ?_, ?_, ?_, ?_, ?_, Or.inl H.fg, ⟨Or.inl H.fm.1, H.fm.2⟩, ?_, ?_, (fun k hk => hk.elim (H.low k) fun h => Nat.lt_of_lt_of_le H.kin.s1 h.1), hkin, ?_, ?_⟩, hXF⟩
  · have hR2 : Row g 63 [v, .map (some m)] w2 := by
      have h := H.r0
      unfold Row at h ⊢
      rw [hsame g hgl (fun e => (H.fv g e).2.1 rfl)]
      exact h
    exact hR2.set 0 v2
  · exact ownsG_only hr2 ((Only.refl (fun k => k = g) w2).setCell (p := ⟨g, 0, none⟩) rfl v2) fun k hk e => (hvg k hk).1 e
  · simp [Bk.post, H.le]
  · simp [Bk.post, H.ld]
  · intro j x l hj hl
    rcases Nat.lt_or_ge j s.L.length with hjl | hjl
    · rw [List.getElem?_append_left (by rw [H.le]; exact hjl)] at hj
      have hl' : s.L[j]? = some l := by
        rw [← hl]; show _ = (s.L ++ [ls])[j]?; rw [List.getElem?_append_left hjl]
      obtain ⟨q1, q2', q3, q4, q5, q6⟩ := H.row j x l hj hl'
      refine ⟨?_, q2', q3.only hX (fun ad e => Or.inr fun hh => hh.elim (q6 ad e).2.1 (q6 ad e).2.2.1), q4, q5, fun ad e => ⟨Or.inl (q6 ad e).1, (q6 ad e).2.1, fun h => ?_, (q6 ad e).2.2.2⟩⟩
      · show (s.done ++ [false])[j]? = _
        rw [List.getElem?_append_left (by rw [H.ld]; exact hjl)]
        exact q1
      · rcases l2 with l2 | l2
        · rw [l2] at h; exact (q6 ad e).2.2.1 h
        · have := H.lt _ (q6 ad e).1
          rw [l2, World.size_alloc] at h; have h' := Option.some.inj h; omega
    · have hjj : j = s.L.length := by
        have := (List.getElem?_eq_some_iff.1 hj).1
        rw [List.length_append, H.le] at this
        simp at this; omega
      subst hjj
      rw [List.getElem?_append_right (by rw [H.le]; exact Nat.le_refl _), H.le, Nat.sub_self, List.getElem?_cons_zero, Option.some.injEq] at hj
      subst hj
      have hl' : ls = l := by
        have : (s.L ++ [ls])[s.L.length]? = some l := hl
        rw [List.getElem?_append_right (Nat.le_refl _), Nat.sub_self, List.getElem?_cons_zero, Option.some.injEq] at this
        exact this
      subst hl'
      refine ⟨?_, rfl, k1.only hX1 fun ad e => Or.inr fun hh => ?_, k2, k3, fun ad e => ?_⟩
      · show (s.done ++ [false])[s.L.length]? = _
        rw [List.getElem?_append_right (by rw [H.ld]; exact Nat.le_refl _), H.ld, Nat.sub_self]
        rfl
      · have h1 := (k5 ad e).1
        rcases hh with hh | hh
        · omega
        · have := H.lt _ (H.fv _ hh).1; omega
      · have h1 := (k5 ad e).1
        have h4 := (k5 ad e).2.2.2
        have hml := H.lt m H.fm.1
        refine ⟨Or.inr ⟨h1, by rw [hszf]; omega⟩, by omega, fun h => ?_, by omega⟩
        rcases l2 with l2 | l2
        · rw [l2] at h
          have := H.lt _ (H.fv _ h).1; omega
        · rw [l2, World.size_alloc] at h; have h' := Option.some.inj h; omega
  · exact H.mp.only hX fun hh => hh.elim H.fm.2 fun h => (H.fv m h).2.2 rfl
  · intro q hq
    refine ⟨?_, hvg q hq⟩
    rcases l2 with l2 | l2
    · rw [l2] at hq; exact Or.inl (H.fv q hq).1
    · have hlt := (World.ownsRow.lt hr2 q hq).2
      rw [l2, World.size_alloc] at hq; cases hq
      exact Or.inr ⟨by omega, by rw [hszf]; exact hlt⟩
  · intro k hk
    rw [hszf]
    rcases hk with hk | hk
    · have := H.lt k hk; omega
    · rw [hszf] at hk; exact hk.2
  · simp [Bk.post]; omega
  · intro l hl
    rcases List.mem_append.1 hl with hl | hl
    · exact H.ok l hl
    · rw [List.mem_singleton.1 hl]; exact hok

theorem build_entry (a : Option Addr) (n c : Nat) (w : World) : (Instr.build 71 #[(0, .slice a n c)]).run Tryd.prog w = .ok (.agg #[.slice a n c, .bool false]) w := run_build w 71 _ _ (by kernel_rfl)
theorem one_entry (w : World) (a : Option Addr) (n c : Nat) : RowsAt GEn (w.alloc (Obj.cells #[.slice a n c, .bool false] 71)) (some ⟨w.heap.size, 0, none⟩) 1 [⟨a, n, c, false⟩] := by
  refine RowsAt.one fun i v hv => ?_
  match i with
  | 0 => simp only [GEn, List.getElem?_cons_zero, Option.some.injEq] at hv; subst hv; simp
  | 1 => simp only [GEn, List.getElem?_cons_succ, List.getElem?_cons_zero, Option.some.injEq] at hv; subst hv; simp
  | (i + 2) => simp [GEn] at hv

theorem Only.trans' {F : Nat → Prop} {a b c : World} (h : Only F a b) (k : Only F b c) : Only F a c := h.trans k
theorem BAt.widen {F : Nat → Prop} {g m : Nat} {v : Value} {es : List En} {s : Bk} {N : Nat} {f : Int → Int → Option Int} {w0 w w' : World} (H : BAt (PlusF F w w') g m v es s N f w') (ho : Only F w0 w) (T : Kin w0) : BAt (PlusF F w0 w') g m v es s N f w' where
  r0 := H.r0
  ent := H.ent
  le := H.le
  ld := H.ld
  row := fun j x ls h1 h2 => by
    obtain ⟨q1, q2, q3, q4, q5, q6⟩ := H.row j x ls h1 h2
    exact ⟨q1, q2, q3, q4, q5, fun ad e => ⟨(q6 ad e).1.elim Or.inl fun h => Or.inr ⟨Nat.le_trans ho.size h.1, h.2⟩, (q6 ad e).2⟩⟩
  mp := H.mp
  fg := H.fg.elim Or.inl fun h => Or.inr ⟨Nat.le_trans ho.size h.1, h.2⟩
  fm := ⟨H.fm.1.elim Or.inl fun h => Or.inr ⟨Nat.le_trans ho.size h.1, h.2⟩, H.fm.2⟩
  fv := fun q hq => ⟨(H.fv q hq).1.elim Or.inl fun h => Or.inr ⟨Nat.le_trans ho.size h.1, h.2⟩, (H.fv q hq).2⟩
  lt := fun k hk => hk.elim (fun h => H.lt k (Or.inl h)) (·.2)
  low := fun k hk => hk.elim (fun h => H.low k (Or.inl h)) fun h => Nat.lt_of_lt_of_le T.s1 h.1
  kin := H.kin
  big := H.big
  ok := H.ok
theorem len_back10 (n : Nat) (h : n ≤ 4096) : IntKind.i64.wrap (((n + 1 : Nat) : Int) - 1) = (n : Int) ∧ IntKind.i64.wrap ((n : Int) + 1 - 1) = (n : Int) := by
  constructor
  · rw [IntWalk.i64_in _ (by omega)]; omega
  · rw [IntWalk.i64_in _ (by omega)]; omega
/-- the books' struct stays while the entries' row grows -/
theorem keep_g {F : Nat → Prop} {g m : Nat} {v : Value} {es : List En} {s : Bk} {N : Nat} {f : Int → Int → Option Int} {y w : World} {o : Obj} (H : BAt F g m v es s N f y) (q : (y.alloc o).grownBy w v.ownBlock) :
    w.cell? ⟨g, 0, none⟩ = some v ∧ w.frozen? ⟨g, 0, none⟩ = false := by
  have hg := H.lt g H.fg
  have e : w.heap[g]? = y.heap[g]? := by
    rw [q.block g (by rw [World.size_alloc]; omega) (fun e => (H.fv g e.symm).2.1 rfl), Below.heap_alloc _ _ _ hg]
  exact ⟨(World.cell?_of_block (a := ⟨g, 0, none⟩) e).trans H.cells.1, (World.frozen?_of_block (a := ⟨g, 0, none⟩) e).trans (H.r0.frozen 0)⟩

set_option maxRecDepth 100000 in
set_option maxHeartbeats 8000000 in
theorem post10_any {F : Nat → Prop} {g m : Nat} {v : Value} {es : List En} {s : Bk} (a : Option Addr) (n c : Nat) (ls : List Ln) (w : World) (H : BAt F g m v es s (32 * s.L.length) (balF s) w) (hl : LinesAt w a n ls) (hok : OkL ls) (hx : ∀ x, a = some x → n = 0 ∨ ¬ F x.block) (hc : n ≤ c) (hn : n ≤ 1000) :
    Calls Tryd.prog 22 #[.pointer (some ⟨g, 0, none⟩), .slice a n c] w fun e w' => Only F w w' ∧
      ((s.mayN ls = 0 ∧ e = .returned (.tuple #[.int .i64 (s.L.length : Int), .nilIface]) ∧ ∃ v' es', BAt (PlusF F w w') g m v' es' (s.post ls) (32 * (s.L.length + 1)) (balF (s.post ls)) w') ∨
        (s.mayN ls ≠ 0 ∧ e = .returned (.tuple #[.int .i64 0, errv (s.mayN ls : Int)]) ∧ BAt F g m v es s (32 * s.L.length) (balF s) w')) := by
  have r1 := run_neq_errv_nil
  have g1 := guard_neq_errv_nil
  have hmay := mayN_eq s ls
  obtain ⟨c0, c1⟩ := H.cells
  obtain ⟨aL, cL, rfl, hL1, hL2, hL3⟩ := H.slice
  have HLN := Lib.hid hl.1
  have HL := Lib.hid hl
  have HOK := Lib.hid hok
  have HX := Lib.hid hx
  have HH := Lib.hid H
  have HBIG := Lib.hid H.big
  have hch := check10_any a n c ls w H.kin hl hok hc hn
  clear hl hok hx H hL3
  by_cases h4 : 4096 ≤ s.L.length
  · rw [if_pos h4] at hmay
    have HM := Lib.hid hmay
    have t1 : (4096 : Int) ≤ (s.L.length : Int) := by omega
    clear hmay h4 hch
    go_enter Tryd.func22, Tryd.ntmps22
    go_wp2_with fail
    go_ret2
    exact ⟨Only.refl _ _, Or.inr ⟨by rw [HM.out]; decide, by rw [HM.out]; rfl, HH.out⟩⟩
  · rw [if_neg h4] at hmay
    have t1 : ¬ (4096 : Int) ≤ (s.L.length : Int) := by omega
    have HLT : Hid (s.L.length < 4096) := by show _ < _; omega
    by_cases hcn : checkN ls ≠ 0
    · rw [if_pos hcn] at hmay
      have HM := Lib.hid hmay
      obtain ⟨k, hk⟩ : ∃ k : Nat, checkN ls = k := ⟨_, rfl⟩
      rw [hk] at hch hcn HM
      have HK := Lib.hid hcn
      have t2 : ((k : Int) != 0) = true := by simpa using hcn
      clear hmay h4 hcn hk
      go_enter Tryd.func22, Tryd.ntmps22
      go_wp2_with fail
      refine hch.mono ?_
      rintro e w1 ⟨rfl, hb⟩
      have HB := Lib.hid hb
      clear hb
      go_wp2_with fail
      go_ret2
      exact ⟨Only.of_below HB.out, Or.inr ⟨by rw [HM.out]; exact HK.out, by rw [HM.out]; rfl, HH.out.up HB.out⟩⟩
    · rw [if_neg hcn] at hmay
      have hcz : checkN ls = 0 := by omega
      have HCL := Lib.hid (checkN_len hcz)
      rw [hcz] at hch
      clear hcn hcz h4
      have HMAY := Lib.hid hmay
      clear hmay
      go_enter Tryd.func22, Tryd.ntmps22
      go_wp2_with fail
      refine hch.mono ?_
      rintro e w1 ⟨rfl, hb⟩
      have HB := Lib.hid hb
      clear hb c0 c1
      have hbh := behind_any a n c ls w1 (HH.out.up HB.out) (HL.out.up HB.out) HOK.out hn
      go_wp2_with fail
      refine hbh.mono ?_
      rintro e w2 ⟨hb2, ⟨ho, q, rfl, hq, hm⟩ | ⟨ho, rfl⟩⟩
      rotate_left
      · have HM : Hid (s.mayN ls = 3) := by show _ = _; rw [HMAY.out, if_pos ho]
        have HB2 := Lib.hid (HB.out.trans (hb2.mono HB.out.size))
        clear hb2 ho
        go_wp2_with fail
        go_ret2
        exact ⟨Only.of_below HB2.out, Or.inr ⟨by rw [HM.out]; decide, by rw [HM.out]; rfl, HH.out.up HB2.out⟩⟩
      · have HM : Hid (s.mayN ls = 0) := by show _ = _; rw [HMAY.out, if_neg (by rw [ho]; decide)]
        have HB2 := Lib.hid (HB.out.trans (hb2.mono HB.out.size))
        have HE : Hid (OkE ls) := ⟨HCL.out.1, HCL.out.2, HOK.out, over_min [] ls ho⟩
        have H2 := HH.out.up HB2.out
        have hmq : m ≠ q := by
          have h1 := HH.out.lt m HH.out.fm.1
          have h2 := HB.out.size
          omega
        have hst := settle_any (N := 32 * s.L.length) (c := n) w2 H2.r0 H2.mp hm hmq H2.fm.2.symm (by have := HBIG.out; omega)
        clear hb2 ho hq hm hbh
        go_wp2_with fail
        refine hst.mono ?_
        rintro e w3 ⟨rfl, ho3, hm3⟩
        have hn32 : n ≤ 32 := by rw [← HLN.out]; exact HCL.out.2
        have hm4 : OwnM m (32 * (s.L.length + 1)) (balF (s.post ls)) w3 := (hm3.mono (by omega)).cong fun k o _ _ => mixF_post s ls k o
        have H3 := H2.remap ho3 hm4 (H2.kin.only ho3 (fun e => by have := H2.low m H2.fm.1; omega))
        have HO3 : Hid (Only F w w3) := (Only.of_below HB2.out).trans (ho3.mono fun k _ hk => by rw [hk]; exact HH.out.fm.1)
        have HL3 : Hid (LinesAt w3 a n ls) := HL.out.only HO3.out HX.out
        have HH3 := Lib.hid H3
        clear hst H2 ho3 hm3 hm4 hmq H3
        have d0 : w3.cell? ⟨g, 0, none⟩ = some (.slice aL s.L.length cL) := HH3.out.cells.1
        have HCLN : Hid (Calls Tryd.prog 31 #[.slice a n c] w3.drew fun e w' => ∃ v, e = .returned v ∧ OwnsL w3.heap.size v ls w' ∧ Below w3.heap.size w3.drew w') :=
          cloneLn_any a n c ls w3.drew (HL3.out.up (Below.refl _ _).drew) (by rw [← HLN.out]; exact HCL.out.1) hn
        have hbe := build_entry
        have t9 := (len_back10 s.L.length HBIG.out).1
        have t10 := (len_back10 s.L.length HBIG.out).2
        go_wp2_with fail
        go_region_law (first
          | (go_simp; go_at_call 31; refine HCLN.out.mono ?_; rintro e y1 ⟨v1, rfl, ho1, hby⟩
             obtain ⟨a4, c4, rfl, -, -, -, -, -, -⟩ := ho1.open
             have hB1 : Below w3.heap.size w3 y1 := (Below.refl w3.heap.size w3).drew.trans hby
             have HB1 := Lib.hid hB1
             have HO1 := Lib.hid ho1
             have HY := Lib.hid (HH3.out.up hB1)
             have e0 : y1.cell? ⟨g, 0, none⟩ = some (.slice aL s.L.length cL) := HY.out.cells.1
             have e0a : ∀ o, (y1.alloc o).cell? ⟨g, 0, none⟩ = some (.slice aL s.L.length cL) := fun o => (HY.out.up ((Below.refl _ y1).alloc (Nat.le_refl _) o)).cells.1
             have HOE : Hid (∀ o, OwnsG GEn 0 (.slice aL s.L.length cL) es (y1.alloc o)) := fun o => (HY.out.up ((Below.refl _ y1).alloc (Nat.le_refl _) o)).ent
             clear ho1 hby hB1)
          | (refine step_append_g GEn rfl (.tmp 37) (.tmp 41) rfl 0 _ es (by simp [Act.eval]) (HOE.out _) (some ⟨y1.heap.size, 0, none⟩) 1 1 [⟨a4, ls.length, c4, false⟩] (by simp [Act.eval]) (fun h => by cases h) (one_entry _ _ _ _) (by rw [HH3.out.le]; have := HBIG.out; omega) (Nat.zero_le _) ?_
             intro v2 w5 o2 q2 r2 l2
             have HM2 := Lib.hid (bat_append HH3.out HB1.out HO1.out HLT.out HE.out o2 q2 l2)
             obtain ⟨aL2, cL2, hv2, -⟩ := o2.open
             rw [show (es ++ [(⟨a4, ls.length, c4, false⟩ : En)]).length = s.L.length + 1 by rw [List.length_append, HH3.out.le]; rfl] at hv2
             subst hv2
             obtain ⟨cg0, fg0⟩ := keep_g HY.out q2
             clear o2 q2 r2 l2))
        all_goals
          clear cg0 fg0
          generalize w5.setCell ⟨g, 0, none⟩ (.slice aL2 (s.L.length + 1) cL2) = w6 at HM2 ⊢
          have z0 : w6.cell? ⟨g, 0, none⟩ = some (.slice aL2 (s.L.length + 1) cL2) := HM2.out.1.cells.1
          clear e0 e0a
          go_wp2_with fail
          go_ret2
          refine ⟨HO3.out.trans' HM2.out.2, Or.inl ⟨HM.out, rfl, _, _, HM2.out.1.widen HO3.out HH.out.kin⟩⟩
end Go.Proofs.YtcdkgfjjgebcnaaDoor
