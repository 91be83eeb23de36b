/- The landed package book: balances let stand. -/
import Derived.Test.YtcdkgfjjgebcnaaDoorBkBehind
namespace Go.Proofs.YtcdkgfjjgebcnaaDoor
open Go Go.RowKit
set_option linter.unusedVariables false

/-- a map with another one's values over it, but for those that are 0 -/
def mixF (f h : Int → Int → Option Int) : Int → Int → Option Int := fun k o => match h k o with | some v => if v = 0 then none else some v | none => f k o
theorem mixF_post (s : Bk) (l : List Ln) (k o : Int) : mixF (balF s) (aftF s l) k o = balF (s.post l) k o := by
  unfold mixF aftF balF
  rw [bal_post]
  cases h : hasA l k o with
  | true => simp
  | false => simp [hasA_no h]
/-- .. while some are still to come -/
def partF (f h : Int → Int → Option Int) (left : Int → Int → Bool) : Int → Int → Option Int := fun k o => cond (left k o) (f k o) (mixF f h k o)

/-- the range is under way: m is the map that is written, q the one that is read, r its iterator -/
structure StAt (w : World) (m q r c : Nat) (f h : Int → Int → Option Int) (left : Int → Int → Bool) (cnt N : Nat) (W : World) : Prop where
  rg : RangeM q r c h left cnt W
  mp : OwnM m N (partF f h left) W
  ne : m ≠ q ∧ m ≠ r ∧ w.heap.size ≤ r
  ho : Only (fun k => k = m) w W
section
variable {w : World} {m q r c : Nat} {f h : Int → Int → Option Int} {left : Int → Int → Bool} {cnt N : Nat} {W W' : World}
theorem StAt.up (H : StAt w m q r c f h left cnt N W) (hb : Below W.heap.size W W') : StAt w m q r c f h left cnt N W' := ⟨H.rg.up hb, H.mp.up hb, H.ne, H.ho.trans (Only.of_below hb)⟩
theorem StAt.next {k o : Int} {cnt' : Nat} (H : StAt w m q r c f h left cnt N W) (hrg : RangeM q r c h (struck left k o) cnt' W') (ho : Only (fun k => k = r) W W') :
    RangeM q r c h (struck left k o) cnt' W' ∧ OwnM m N (partF f h left) W' ∧ Only (fun k => k = m) w W' := by
  refine ⟨hrg, H.mp.only ho H.ne.2.1, ⟨ho.os.trans H.ho.os, ho.tape.trans H.ho.tape, ho.output.trans H.ho.output, Nat.le_trans H.ho.size ho.size, fun i hi hm => ?_⟩⟩
  have h1 := H.ne.2.2
  rw [ho.block i (Nat.lt_of_lt_of_le hi H.ho.size) (by omega)]
  exact H.ho.block i hi hm
end
theorem part_start (f h : Int → Int → Option Int) (k o : Int) : f k o = partF f h (fun k o => (h k o).isSome) k o := by
  unfold partF mixF
  cases hk : h k o <;> simp [hk]
theorem part_end (f h : Int → Int → Option Int) (left : Int → Int → Bool) (k o : Int) (hl : left k o = false) : partF f h left k o = mixF f h k o := by
  unfold partF
  rw [hl]
  rfl
theorem part_del {f h : Int → Int → Option Int} {left : Int → Int → Bool} {k o : Int} (hh : h k o = some 0) (k' o' : Int) : delF (partF f h left) k o k' o' = partF f h (struck left k o) k' o' := by
  unfold delF partF struck
  by_cases e : k' = k ∧ o' = o
  · obtain ⟨rfl, rfl⟩ := e
    simp [mixF, hh]
  · rw [if_neg e]
    rw [decide_eq_false e, Bool.not_false, Bool.and_true]
theorem part_put {f h : Int → Int → Option Int} {left : Int → Int → Bool} {k o v : Int} (hh : h k o = some v) (hv : v ≠ 0) (k' o' : Int) : putF (partF f h left) k o v k' o' = partF f h (struck left k o) k' o' := by
  unfold putF partF struck
  by_cases e : k' = k ∧ o' = o
  · obtain ⟨rfl, rfl⟩ := e
    simp [mixF, hh, hv]
  · rw [if_neg e]
    rw [decide_eq_false e, Bool.not_false, Bool.and_true]

theorem wpList_range10 {w : World} {ops : Array Oper} {rest : List Oper} {o : Oper} {a : Act} {Q : Exit → Act → World → Prop} (hg : o.guard = none) (mo : Operand) (hop : o.op = Op.range TMap mo) (m n : Nat) (f : Int → Int → Option Int) (hm : a.eval mo = .map (some m)) (h : OwnM m n f w)
    (hK : ∀ w' c, RangeM m w.heap.size n f (fun k o => (f k o).isSome) c w' → c ≤ n → Below w.heap.size w w' → wpList Tryd.prog ops Q rest (a.put o.dst (.pointer (some ⟨w.heap.size, 0, none⟩))) w') :
    wpList Tryd.prog ops Q (o :: rest) a w := by
  refine wpList_plain hg fun K' hK' => ?_
  obtain ⟨w', c, hrun, r1, r2, r3, -⟩ := h.range
  unfold Oper.wp
  simp [execOp, hop, hm, hrun, Result.andThen]
  exact hK' _ _ (hK w' c r1 r2 r3)
theorem wpList_next10 {w : World} {ops : Array Oper} {rest : List Oper} {o : Oper} {a : Act} {Q : Exit → Act → World → Prop} (hg : o.guard = none) (it : Operand) (hop : o.op = Op.next it false) (m r n c : Nat) (f : Int → Int → Option Int) (left : Int → Int → Bool) (hit : a.eval it = .pointer (some ⟨r, 0, none⟩)) (h : RangeM m r n f left c w)
    (hDone : c = 0 → (∀ k o, in64 k → in64 o → left k o = false) → wpList Tryd.prog ops Q rest (a.put o.dst (.tuple #[.bool false])) w)
    (hMore : ∀ (k o' v : Int) (w' : World) (c' : Nat), in64 k → in64 o' → in64 v → left k o' = true → f k o' = some v → RangeM m r n f (struck left k o') c' w' → c' < c → Only (fun k => k = r) w w' →
      (Instr.entry (.pointer (some ⟨r, 0, none⟩))).run Tryd.prog w' = .ok (.tuple #[accA k o', .int .i64 v]) w' → wpList Tryd.prog ops Q rest (a.put o.dst (.tuple #[.bool true, accA k o', .int .i64 v])) w') :
    wpList Tryd.prog ops Q (o :: rest) a w := by
  refine wpList_plain hg fun K' hK' => ?_
  unfold Oper.wp
  rcases h.next o.type with ⟨h0, hl, hrun⟩ | ⟨k, o', v, w', c', hk, ho, hv, hlk, hf, hrun, hrg, hlt, hgr, hen⟩
  · simp [execOp, hop, hit, hrun, Result.andThen]
    exact hK' _ _ (hDone h0 hl)
  · simp [execOp, hop, hit, hrun, Result.andThen]
    exact hK' _ _ (hMore k o' v w' c' hk ho hv hlk hf hrg hlt hgr hen)

set_option maxRecDepth 100000 in
set_option maxHeartbeats 8000000 in
theorem settle_any {g m q N c : Nat} {f h : Int → Int → Option Int} {v : Value} (w : World) (hr : Row g 63 [v, .map (some m)] w) (hm : OwnM m N f w) (hq : OwnM q c h w) (hmq : m ≠ q) (hgm : g ≠ m) (hN : N + c ≤ 1000000) :
    Calls Tryd.prog 39 #[.pointer (some ⟨g, 0, none⟩), .map (some q)] w fun e w' => e = .returned (.tuple #[]) ∧ Only (fun k => k = m) w w' ∧ OwnM m (N + c) (mixF f h) w' := by
  have HR := Lib.hid hr
  have HM := Lib.hid hm
  have HQ := Lib.hid hq
  have HML := Lib.hid hm.lt
  have HNE := Lib.hid hmq
  have HGM := Lib.hid hgm
  clear hr hm hq hmq hgm
  go_enter Tryd.func39, Tryd.ntmps39
  go_wp2_with (at_range; refine wpList_range10 rfl _ rfl q c h rfl HQ.out ?_; intro w1 c1 hrg1 hc1 hb1)
  have HX : Hid (StAt w m q w.heap.size c f h (fun k o => (h k o).isSome) c1 N w1) := by
    exact ⟨hrg1, (HM.out.up hb1).cong fun k o _ _ => part_start f h k o, ⟨HNE.out, by have := HML.out; omega, Nat.le_refl _⟩, Only.of_below hb1⟩
  clear hrg1 hb1
  go_frame
  go_loopw [] (fun wr => ∃ (left : Int → Int → Bool) (cnt N' : Nat), N' + cnt ≤ N + c ∧ Hid (StAt w m q w.heap.size c f h left cnt N' wr)) (fun wr => wr.rangeLeft q w.heap.size)
  case atStart => exact ⟨_, c1, N, by omega, HX⟩
  case round =>
    obtain ⟨left, cnt, N', hN', hX⟩ := hrel
    go_wp2_with (at_next; refine wpList_next10 rfl _ rfl q w.heap.size c cnt h left rfl hX.out.rg ?_ ?_)
    · intro hc0 hl0
      have HE : Hid (OwnM m (N + c) (mixF f h) wr) := (hX.out.mp.mono (by omega)).cong fun k o hk ho => part_end f h left k o (hl0 k o hk ho)
      clear hl0
      go_wp2_with fail
      go_end0
      exact ⟨rfl, hX.out.ho, HE.out⟩
    · intro k o x w2 c2 hk ho hx hlk hf hrg hlt hgr hen
      obtain ⟨g1, g2, g3⟩ := hX.out.next hrg hgr
      obtain ⟨W1, hW1⟩ : ∃ W1, w2.alloc (Obj.cells #[.int .i64 k, .int .i64 o] 24) = W1 := ⟨_, rfl⟩
      have hA : Below w2.heap.size w2 W1 := by rw [← hW1]; exact (Below.refl _ _).alloc (Nat.le_refl _) _
      obtain ⟨bx, hbx⟩ : ∃ bx, w2.heap.size = bx := ⟨_, rfl⟩
      have b0 : W1.cell? ⟨bx, 0, none⟩ = some (.int .i64 k) := by rw [← hW1, ← hbx]; simp
      have b1 : W1.cell? ⟨bx, 1, none⟩ = some (.int .i64 o) := by rw [← hW1, ← hbx]; simp
      have HG := Lib.hid (g1.up hA)
      have HMW : Hid (OwnM m N' (partF f h left) W1.drew) := (g2.up hA).up (Below.refl _ _).drew
      have HO := Lib.hid (g3.trans (Only.of_below hA))
      have hrow := HR.out.only HO.out (fun e => HGM.out e)
      have c1 : W1.cell? ⟨g, 1, none⟩ = some (.map (some m)) := hrow.cell (j := 1) (by simp)
      have HK := Lib.hid (And.intro hk (And.intro ho hx))
      have HF := Lib.hid hf
      have HLT := Lib.hid hlt
      clear hrow g1 g2 g3 hrg hgr hk ho hx hlk hf hA hlt
      by_cases h0 : x = 0
      · subst h0
        go_wp2_with fail
        try rw [hbx]
        try rw [hW1]
        clear hbx hW1
        go_region_law (refine step_del10 rfl (.tmp 18) (.tmp 19) rfl m N' _ (by simp [Act.eval]) HMW.out k o (by simp [Act.eval]) HK.out.1 HK.out.2.1 ?_
                       intro w3 hm3 ho3
                       have HN : Hid (StAt w m q w.heap.size c f h (struck left k o) c2 N' w3) :=
                         ⟨(HG.out.up (Below.refl _ _).drew).only ho3 (fun e => hX.out.ne.1 e.symm) (fun e => hX.out.ne.2.1 e.symm), hm3.cong fun k' o' _ _ => part_del HF.out k' o', hX.out.ne, (HO.out.drew).trans ho3⟩
                       clear hm3 ho3)
        all_goals
          go_wp2_with fail
          have hlt := HLT.out
          exact ⟨⟨_, c2, N', by omega, HN⟩, by rw [HN.out.rg.left_eq, hX.out.rg.left_eq]; exact hlt⟩
      · have t0 : (x == 0) = false := by simpa using h0
        have HX0 := Lib.hid h0
        clear h0
        go_wp2_with fail
        try rw [hbx]
        try rw [hW1]
        clear hbx hW1
        obtain ⟨w3, hr, hm3, ho3⟩ := HMW.out.put (by have h1 := hN'; have h2 := hN; unfold maxLen; omega) HK.out.1 HK.out.2.1 HK.out.2.2
        have HN : Hid (StAt w m q w.heap.size c f h (struck left k o) c2 (N' + 1) w3) :=
          ⟨(HG.out.up (Below.refl _ _).drew).only ho3 (fun e => hX.out.ne.1 e.symm) (fun e => hX.out.ne.2.1 e.symm), hm3.cong fun k' o' _ _ => part_put HF.out HX0.out k' o', hX.out.ne, (HO.out.drew).trans ho3⟩
        clear hm3 ho3
        go_region_law (fail)
        all_goals
          go_wp2_with fail
          have hlt := HLT.out
          exact ⟨⟨_, c2, N' + 1, by omega, HN⟩, by rw [HN.out.rg.left_eq, hX.out.rg.left_eq]; exact hlt⟩
end Go.Proofs.YtcdkgfjjgebcnaaDoor
