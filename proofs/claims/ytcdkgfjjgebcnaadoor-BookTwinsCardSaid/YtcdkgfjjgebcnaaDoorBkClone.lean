/- The landed package book: Clone. -/
import Derived.Test.YtcdkgfjjgebcnaaDoorBkRev
namespace Go.Proofs.YtcdkgfjjgebcnaaDoor
open Go Go.RowKit
set_option linter.unusedVariables false

/-- books that are copied: the struct in g', the map in m', the entries v', of which j have rows of their own -/
structure ClAt (F : Nat → Prop) (w : World) (g m : Nat) (v : Value) (es : List En) (s : Bk) (g' m' : Nat) (v' : Value) (es' : List En) (j : Nat) (W : World) : Prop where
  old : BAt F g m v es s (32 * s.L.length) (balF s) W
  r0 : Row g' 63 [v', .map (some m')] W
  ent : OwnsG GEn w.heap.size v' es' W
  mp : OwnM m' (32 * s.L.length) (balF s) W
  hg : w.heap.size ≤ g'
  hm : w.heap.size ≤ m' ∧ m' ≠ g'
  hv : ∀ q, v'.ownBlock = some q → q ≠ g' ∧ q ≠ m'
  len : es'.length = s.L.length
  rest : ∀ i, j ≤ i → es'[i]? = es[i]?
  new : ∀ (i : Nat) (x : En) (ls : List Ln), i < j → es'[i]? = some x → s.L[i]? = some ls → s.done[i]? = some x.d ∧ x.n = ls.length ∧ LinesAt W x.a x.n ls ∧ x.n ≤ x.c ∧ x.c ≤ maxLen ∧ ∀ ad, x.a = some ad → (w.heap.size ≤ ad.block ∧ ad.block < W.heap.size) ∧ ad.block ≠ g' ∧ v'.ownBlock ≠ some ad.block ∧ ad.block ≠ m'
  below : Below w.heap.size w W
  fl : ∀ k, F k → k < w.heap.size
  kl : 0 < w.heap.size
section
variable {F : Nat → Prop} {w : World} {g m : Nat} {v : Value} {es : List En} {s : Bk} {g' m' : Nat} {v' : Value} {es' : List En} {j : Nat} {W W' : World}
theorem ClAt.up (H : ClAt F w g m v es s g' m' v' es' j W) (hb : Below W.heap.size W W') : ClAt F w g m v es s g' m' v' es' j W' where
  old := H.old.up hb
  r0 := H.r0.up hb
  ent := H.ent.up hb
  mp := H.mp.up hb
  hg := H.hg
  hm := H.hm
  hv := H.hv
  len := H.len
  rest := H.rest
  new := fun i x ls h1 h2 h3 => by
    obtain ⟨q1, q2, q3, q4, q5, q6⟩ := H.new i x ls h1 h2 h3
    exact ⟨q1, q2, q3.up hb, q4, q5, fun ad e => ⟨⟨(q6 ad e).1.1, Nat.lt_of_lt_of_le (q6 ad e).1.2 hb.size⟩, (q6 ad e).2⟩⟩
  below := H.below.trans (hb.mono H.below.size)
  fl := H.fl
  kl := H.kl
theorem ClAt.cell (H : ClAt F w g m v es s g' m' v' es' j W) : W.cell? ⟨g', 0, none⟩ = some v' := H.r0.cell (j := 0) (by simp)
theorem ClAt.step {y1 : World} {q : Nat} {x : En} {ls : List Ln} {a4 : Option Addr} {c4 : Nat} (H : ClAt F w g m v es s g' m' v' es' j W) (hb : Below W.heap.size W y1) (ho : OwnsL W.heap.size (.slice a4 ls.length c4) ls y1) (hv : v'.ownBlock = some q) (hx : es'[j]? = some x) (hl : s.L[j]? = some ls) (hd : s.done[j]? = some x.d) :
    ClAt F w g m v es s g' m' v' (es'.set j ⟨a4, ls.length, c4, x.d⟩) (j + 1) (y1.setCell ⟨q, j * 2, none⟩ (.slice a4 ls.length c4)) := by
  have H1 := H.up hb
  obtain ⟨qg, qm⟩ := H.hv q hv
  have hq := World.ownsRow.lt H1.ent q hv
  have hq0 := World.ownsRow.lt H.ent q hv
  have hO : Only (fun k => k = q) y1 (y1.setCell ⟨q, j * 2, none⟩ (.slice a4 ls.length c4)) := (Only.refl (fun k => k = q) y1).setCell (p := ⟨q, j * 2, none⟩) rfl _
  have hjl := (List.getElem?_eq_some_iff.1 hx).1
  have hfq : ∀ k, k = q → ¬ F k := fun k e hf => by
    have h1 := H.fl k hf
    have h2 := hq.1
    omega
  refine ⟨H1.old.only hO hfq (H1.old.kin.only hO fun e => ?_), H1.r0.only hO (fun e => qg e.symm), ownsE_setL H1.ent hv hx a4 ls.length c4, H1.mp.only hO (fun e => qm e.symm), H.hg, H.hm, H.hv, by rw [List.length_set]; exact H.len, fun i hi => ?_, fun i y l h1 h2 h3 => ?_, H1.below.setCell hq.1 _, H.fl, H.kl⟩
  · have h1 := H.kl
    have h2 := hq.1
    omega
  · rw [List.getElem?_set_ne (by omega)]
    exact H.rest i (by omega)
  · by_cases hij : j = i
    · subst hij
      rw [List.getElem?_set_self hjl] at h2
      cases h2
      rw [hl] at h3
      cases h3
      obtain ⟨a5, c5, e5, k1, k2, k3, k4, k5, -⟩ := ho.open
      simp only [Value.slice.injEq, true_and] at e5
      obtain ⟨rfl, rfl⟩ := e5
      have hWq := hq0.2
      have hgl := H.r0.lt
      have hml := H.mp.lt
      refine ⟨hd, rfl, k1.only hO fun ad e => Or.inr fun hh => ?_, k2, k3, fun ad e => ?_⟩
      · have := (k5 ad e).1
        omega
      · have h1 := (k5 ad e).1
        have h4 := (k5 ad e).2.2.2
        have hwW := H.below.size
        refine ⟨⟨by omega, Nat.lt_of_lt_of_le h4 hO.size⟩, by omega, fun e' => ?_, by omega⟩
        rw [hv] at e'
        have := Option.some.inj e'
        omega
    · rw [List.getElem?_set_ne hij] at h2
      obtain ⟨q1, q2, q3, q4, q5, q6⟩ := H1.new i y l (by omega) h2 h3
      exact ⟨q1, q2, q3.only hO (fun ad e => Or.inr fun hh => (q6 ad e).2.2.1 (by rw [hv, hh])), q4, q5, fun ad e => ⟨⟨(q6 ad e).1.1, Nat.lt_of_lt_of_le (q6 ad e).1.2 hO.size⟩, (q6 ad e).2⟩⟩
theorem ClAt.start {y1 y2 : World} (H : BAt F g m v es s (32 * s.L.length) (balF s) w) (h1 : Below w.heap.size w y1) (ho : OwnsG GEn w.heap.size v' es y1) (h2 : Below y1.heap.size y1 y2) (hm : OwnM y1.heap.size (32 * s.L.length) (balF s) y2) :
    ClAt F w g m v es s y2.heap.size y1.heap.size v' es 0 (y2.alloc (Obj.cells #[v', .map (some y1.heap.size)] 63)) := by
  have hA : Below y2.heap.size y2 (y2.alloc (Obj.cells #[v', .map (some y1.heap.size)] 63)) := (Below.refl _ _).alloc (Nat.le_refl _) _
  have hlt := hm.lt
  have h3 := h1.size
  refine ⟨((H.up h1).up h2).up hA, Row.new y2 [v', .map (some y1.heap.size)] _, (ho.up h2).up hA, hm.up hA, by omega, ⟨h3, by omega⟩, fun q hq => ?_, H.le, fun i _ => rfl, fun i x ls h => absurd h (Nat.not_lt_zero _), (h1.trans (h2.mono h3)).trans (hA.mono (by omega)), H.lt, H.kin.s1⟩
  have := (World.ownsRow.lt ho q hq).2
  omega
theorem ClAt.entry (H : ClAt F w g m v es s g' m' v' es' j W) (hj : j < s.L.length) : ∃ q c x ls, v' = .slice (some ⟨q, 0, none⟩) s.L.length c ∧ es'[j]? = some x ∧ s.L[j]? = some ls ∧ s.done[j]? = some x.d ∧ x.n = ls.length ∧ LinesAt W x.a x.n ls ∧ OkE ls ∧ W.cell? ⟨q, j * 2, none⟩ = some (.slice x.a x.n x.c) ∧ ∀ i, W.frozen? ⟨q, i, none⟩ = false := by
  obtain ⟨_, _, x, ls, -, -, -, -, hx, hl, hm, hd, hxn, hla, -, -, -, -, -⟩ := H.old.entry hj
  have hx' : es'[j]? = some x := by rw [H.rest j (Nat.le_refl _)]; exact hx
  obtain ⟨a, c, h1, h2, h3, h4, h5, h6, h7⟩ := H.ent.open
  obtain ⟨b, off, y, rfl, hy, -, hc⟩ := h2.get (j := j) (by rw [H.len]; exact hj)
  obtain ⟨g1, g2, g3, g4⟩ := h6 _ rfl
  simp only at g2
  subst g2
  rw [hx'] at hy
  cases hy
  rw [H.len] at h1
  have c0 := hc 0 _ rfl
  rw [show GEn.k = 2 from rfl, Nat.zero_add, Nat.add_zero] at c0
  exact ⟨b, c, x, ls, h1, hx', hl, hd, hxn, hla, H.old.ok ls hm, c0, fun i => h7 _ i rfl⟩
/-- at the end -/
theorem ClAt.done (H : ClAt F w g m v es s g' m' v' es' s.L.length W) (T : Kin w) : BB (fun k => w.heap.size ≤ k ∧ k < W.heap.size) ⟨g', 0, none⟩ s W := by
  refine ⟨g', m', v', es', rfl, H.r0, ?_, H.len, H.old.ld, fun i x ls h1 h2 => ?_, H.mp, ⟨H.hg, H.r0.lt⟩, ⟨⟨H.hm.1, H.mp.lt⟩, H.hm.2⟩, fun q hq => ⟨World.ownsRow.lt H.ent q hq, H.hv q hq⟩, fun k hk => hk.2, fun k hk => Nat.lt_of_lt_of_le T.s1 hk.1, H.old.kin, H.old.big, H.old.ok⟩
  · exact H.ent.mono (Nat.zero_le _)
  · have hi := (List.getElem?_eq_some_iff.1 h2).1
    exact H.new i x ls hi h1 h2
end

theorem build_book2 (a : Option Addr) (n c m : Nat) (w : World) : (Instr.build 63 #[(0, .slice a n c), (1, .map (some m))]).run Tryd.prog w = .ok (.agg #[.slice a n c, .map (some m)]) w := run_build w 63 _ _ (by kernel_rfl)

set_option maxRecDepth 100000 in
set_option maxHeartbeats 8000000 in
theorem clone10_any {F : Nat → Prop} {g m : Nat} {v : Value} {es : List En} {s : Bk} (w : World) (H : BAt F g m v es s (32 * s.L.length) (balF s) w) :
    Calls Tryd.prog 25 #[.pointer (some ⟨g, 0, none⟩)] w fun e w' => Below w.heap.size w w' ∧ ∃ q G, e = .returned (.pointer (some q)) ∧ BB G q s w' ∧ ∀ k, G k → w.heap.size ≤ k := by
  have hbb := build_book2
  obtain ⟨a, c, rfl, hc1, hc2, -⟩ := H.slice
  have HH := Lib.hid H
  have HBIG := Lib.hid H.big
  obtain ⟨c0, c1⟩ := H.cells
  have HE := Lib.hid (cloneEn_any 0 (.slice a s.L.length c) es w.drew (H.up (Below.refl _ _).drew).ent (by rw [H.le]; have := H.big; omega))
  clear H
  go_enter Tryd.func25, Tryd.ntmps25
  go_wp2_with fail
  go_region_law (first
    | (go_simp; go_at_call 44; refine HE.out.mono ?_; rintro e y1 ⟨v1, rfl, ho1, hb1⟩
       have hB1 : Below w.heap.size w y1 := (Below.refl w.heap.size w).drew.trans hb1
       have HB1 := Lib.hid hB1
       obtain ⟨a1, k1, hv1, -⟩ := ho1.open
       rw [HH.out.le] at hv1
       subst hv1
       have HO1 := Lib.hid ho1
       have e1 : y1.cell? ⟨g, 1, none⟩ = some (.map (some m)) := (HH.out.up hB1).cells.2
       have HM := Lib.hid (cloneMap_any m (32 * s.L.length) (balF s) y1 (HH.out.up hB1).mp)
       clear ho1 hb1 hB1)
    | (go_simp; go_at_call 45; refine HM.out.mono ?_; rintro e y2 ⟨rfl, hm2, hb2⟩
       have HB2 := Lib.hid hb2
       have HM2 := Lib.hid hm2
       clear hm2 hb2))
  all_goals
    have HX := Lib.hid (ClAt.start HH.out HB1.out HO1.out HB2.out HM2.out)
    generalize y2.alloc (Obj.cells #[.slice a1 s.L.length k1, .map (some y1.heap.size)] 63) = W0 at HX ⊢
    generalize y2.heap.size = g' at HX ⊢
    generalize y1.heap.size = m' at HX ⊢
    clear HB1 HO1 HB2 HM2 HM e1
    have d0 := HX.out.cell
    go_wp2_with fail
    go_loopw [22] (fun i wr => ∃ (j : Nat) (es' : List En), i = .int .i64 (j : Int) ∧ j ≤ s.L.length ∧ Hid (ClAt F w g m (.slice a s.L.length c) es s g' m' (.slice a1 s.L.length k1) es' j wr)) (fun i _ => s.L.length - (RowKit.intOf i).toNat)
    case atStart => exact ⟨0, es, rfl, Nat.zero_le _, HX⟩
    case round =>
      obtain ⟨j, es', rfl, hj, hX⟩ := hrel
      clear d0 HX
      by_cases hlt : j < s.L.length
      · have u1 : (j : Int) < (s.L.length : Int) := by omega
        have hbig : s.L.length ≤ 4096 := HBIG.out
        obtain ⟨q, c', x, ls, hv', hx, hl, hd, hxn, hla, hok, e0, fz⟩ := hX.out.entry hlt
        simp only [Value.slice.injEq, true_and] at hv'
        obtain ⟨rfl, rfl⟩ := hv'
        have d0 := hX.out.cell
        have HCLN : Hid (Calls Tryd.prog 31 #[.slice x.a x.n x.c] wr.drew fun e w' => ∃ v, e = .returned v ∧ OwnsL wr.heap.size v ls w' ∧ Below wr.heap.size wr.drew w') :=
          cloneLn_any x.a x.n x.c ls wr.drew (hla.up (Below.refl _ _).drew) (by rw [hxn]; exact hok.1) (by rw [hxn]; have := hok.2.1; omega)
        have HST := Lib.hid (fun (y1 : World) (a4 : Option Addr) (c4 : Nat) (hb : Below wr.heap.size wr y1) (ho : OwnsL wr.heap.size (.slice a4 ls.length c4) ls y1) => hX.out.step hb ho rfl hx hl hd)
        have fz0 := fz (j * 2)
        obtain ⟨xa, xn, xc, xd⟩ := x
        simp only at HCLN HST e0
        clear hx hl hd hxn hla hok fz
        go_wp2_with fail
        go_region_law (go_simp; go_at_call 31; refine HCLN.out.mono ?_; rintro e y1 ⟨v1, rfl, ho1, hby⟩
                       obtain ⟨a4, c4, rfl, -, -, -, -, -, -⟩ := ho1.open
                       have hB1 : Below wr.heap.size wr y1 := (Below.refl wr.heap.size wr).drew.trans hby
                       have HN := Lib.hid (HST.out y1 a4 c4 hB1 ho1)
                       have HY := Lib.hid (hX.out.up hB1)
                       have d0' := HY.out.cell
                       have e0' : y1.cell? ⟨q, j * 2, none⟩ = some (.slice xa xn xc) := (hB1.cell (p := ⟨q, j * 2, none⟩) (cell_lt e0)).trans e0
                       have fz1 : y1.frozen? ⟨q, j * 2, none⟩ = false := (hB1.frozen (p := ⟨q, j * 2, none⟩) (cell_lt e0)).trans fz0
                       clear ho1 hby hB1)
        all_goals
          go_wp2_with fail
          go_roundw
          case rel => exact ⟨j + 1, _, by go_num, by omega, HN⟩
          case measure => simp [RowKit.intOf]; omega
      · have u1 : ¬ (j : Int) < (s.L.length : Int) := by omega
        obtain rfl : j = s.L.length := by omega
        go_wp2_with fail
        go_ret
        exact ⟨hX.out.below, _, rfl, _, hX.out.done HH.out.kin, fun k hk => hk.1⟩
end Go.Proofs.YtcdkgfjjgebcnaaDoor
