/- The landed package book: the balances of the lines' accounts behind them; let stand. -/
import Derived.Test.YtcdkgfjjgebcnaaDoorBkCheck
import Derived.Test.YtcdkgfjjgebcnaaDoorAdd
namespace Go.Proofs.YtcdkgfjjgebcnaaDoor
open Go Go.RowKit
set_option linter.unusedVariables false

/-- is an account among lines? -/
def hasA (l : List Ln) (k o : Int) : Bool := l.any fun x => decide (x.k = k ∧ x.o = o)
theorem hasA_no {l : List Ln} {k o : Int} (h : hasA l k o = false) : balL k o l = 0 := by
  by_cases e : balL k o l = 0
  · exact e
  · obtain ⟨x, hx, h1, h2⟩ := balL_mem e
    unfold hasA at h
    rw [List.any_eq_false] at h
    have := h x hx
    simp [h1, h2] at this
/-- what is kept of them -/
def aftF (s : Bk) (l : List Ln) : Int → Int → Option Int := fun k o => if hasA l k o = true then some (s.bal k o + balL k o l) else none
theorem aftF_nil (s : Bk) : aftF s [] = noF := rfl
theorem aftF_step (s : Bk) {ls : List Ln} {j : Nat} {x : Ln} (h : ls[j]? = some x) (k o : Int) : putF (aftF s (ls.take j)) x.k x.o (s.bal x.k x.o + balL x.k x.o (ls.take j ++ [x])) k o = aftF s (ls.take (j + 1)) k o := by
  have e : ls.take (j + 1) = ls.take j ++ [x] := by rw [List.take_add_one, h]; rfl
  rw [e]
  unfold putF aftF hasA
  by_cases hk : k = x.k ∧ o = x.o
  · obtain ⟨rfl, rfl⟩ := hk
    simp
  · have h1 : ¬ (x.k = k ∧ x.o = o) := fun h => hk ⟨h.1.symm, h.2.symm⟩
    rw [if_neg hk]
    simp only [List.any_append, List.any_cons, List.any_nil, Bool.or_false, decide_eq_false h1, balL_append, balL, if_neg h1, Int.add_zero]
theorem aftF_now (s : Bk) (l : List Ln) (k o : Int) : (if (aftF s l k o).isSome = true then (aftF s l k o).getD 0 else s.bal k o) = s.bal k o + balL k o l := by
  unfold aftF
  cases h : hasA l k o with
  | true => simp
  | false => simp [hasA_no h]
theorem over_step10 (b : Int → Int → Int) {l : List Ln} {j : Nat} {x : Ln} (h : l[j]? = some x) : overL b (l.take j) (l.drop j) = ((decide (¬ in64 (b x.k x.o + balL x.k x.o (l.take j ++ [x]))) || decide (x.v = -9223372036854775808)) || overL b (l.take (j + 1)) (l.drop (j + 1))) := by
  have hj := (List.getElem?_eq_some_iff.1 h)
  obtain ⟨hl, e⟩ := hj
  have e2 : l.take (j + 1) = l.take j ++ [x] := by rw [List.take_add_one, h]; rfl
  rw [List.drop_eq_getElem_cons hl, e, overL, e2]

theorem makeMap10 (n : Int) (w : World) : (Instr.makeMap TMap (some (.int .i64 n))).run Tryd.prog w = .ok (.map (some w.heap.size)) (w.alloc (.map #[] 0)) := by
  simp [Instr.makeMap, run_underlying undMap, asInt, asIntOf, Result.andThen]

section
variable {w : World} {ops : Array Oper} {rest : List Oper} {o : Oper} {a : Act} {Q : Exit → Act → World → Prop} {K : Act → World → Prop} {E : Prop}
/-- a store into such a map, in a list of operations -/
theorem wpList_put10 (hgd : o.guard = none) (mo x v : Operand) (hop : o.op = Op.mapUpdate TMap mo x v) (m n : Nat) (f : Int → Int → Option Int) (hm : a.eval mo = .map (some m)) (h : OwnM m n f w) (hn : n < maxLen) (k1 o1 v1 : Int)
    (hx : a.eval x = accA k1 o1) (hv : a.eval v = .int .i64 v1) (hk : in64 k1) (ho : in64 o1) (hv1 : in64 v1)
    (hK : ∀ w', OwnM m (n + 1) (putF f k1 o1 v1) w' → Only (fun k => k = m) w w' → wpList Tryd.prog ops Q rest (a.put o.dst undef) w') :
    wpList Tryd.prog ops Q (o :: rest) a w := by
  refine wpList_plain hgd fun K' hK' => ?_
  obtain ⟨w', hr, h1, h2⟩ := h.put hn hk ho hv1
  unfold Oper.wp
  simp [execOp, hop, hm, hx, hv, hr, Result.andThen]
  exact hK' _ _ (hK w' h1 h2)
/-- at a step of a region that draws its order -/
theorem step_put10 (hgd : o.guard = none) (mo x v : Operand) (hop : o.op = Op.mapUpdate TMap mo x v) (m n : Nat) (f : Int → Int → Option Int) (hm : a.eval mo = .map (some m)) (h : OwnM m n f w) (hn : n < maxLen) (k1 o1 v1 : Int)
    (hx : a.eval x = accA k1 o1) (hv : a.eval v = .int .i64 v1) (hk : in64 k1) (ho : in64 o1) (hv1 : in64 v1)
    (hK : ∀ w', OwnM m (n + 1) (putF f k1 o1 v1) w' → Only (fun k => k = m) w w' → K (a.put o.dst undef) w') :
    if Region.wanted o (yielded ops a.tmps) = true then Oper.wp Tryd.prog o a w K Q else E := by
  have hw : Region.wanted o (yielded ops a.tmps) = true := by simp [Region.wanted, hgd]
  rw [if_pos hw]
  obtain ⟨w', hr, h1, h2⟩ := h.put hn hk ho hv1
  unfold Oper.wp
  simp [execOp, hop, hm, hx, hv, hr, Result.andThen]
  exact hK w' h1 h2
theorem step_del10 (hgd : o.guard = none) (mo x : Operand) (hop : o.op = Op.call { callee := .builtin .delete, args := #[mo, x], argTypes := #[TMap, TAcc] }) (m n : Nat) (f : Int → Int → Option Int) (hm : a.eval mo = .map (some m)) (h : OwnM m n f w) (k1 o1 : Int)
    (hx : a.eval x = accA k1 o1) (hk : in64 k1) (ho : in64 o1)
    (hK : ∀ w', OwnM m n (delF f k1 o1) w' → Only (fun k => k = m) w w' → K (a.put o.dst (.tuple #[])) w') :
    if Region.wanted o (yielded ops a.tmps) = true then Oper.wp Tryd.prog o a w K Q else E := by
  have hw : Region.wanted o (yielded ops a.tmps) = true := by simp [Region.wanted, hgd]
  rw [if_pos hw]
  obtain ⟨w', hr, h1, h2⟩ := h.del hk ho o.type
  unfold Oper.wp
  simp [execOp, hop, resolve, invoke, builtin, hm, hx, hr, Result.andThen]
  exact hK w' h1 h2
end

/-- the balances behind the first j lines are in a map -/
structure BhAt (w : World) (s : Bk) (ls : List Ln) (j : Nat) (W : World) : Prop where
  mp : OwnM w.heap.size j (aftF s (ls.take j)) W
  below : Below w.heap.size w W
theorem BhAt.up {w : World} {s : Bk} {ls : List Ln} {j : Nat} {W W' : World} (h : BhAt w s ls j W) (hb : Below W.heap.size W W') : BhAt w s ls j W' := ⟨h.mp.up hb, h.below.trans (hb.mono h.below.size)⟩

set_option maxRecDepth 100000 in
set_option maxHeartbeats 8000000 in
theorem behind_any {F : Nat → Prop} {g m : Nat} {v : Value} {es : List En} {s : Bk} {N : Nat} (a : Option Addr) (n c : Nat) (ls : List Ln) (w : World) (H : BAt F g m v es s N (balF s) w) (hl : LinesAt w a n ls) (hok : OkL ls) (hn : n ≤ 1000) :
    Calls Tryd.prog 38 #[.pointer (some ⟨g, 0, none⟩), .slice a n c] w fun e w' => Below w.heap.size w w' ∧
      ((overL s.bal [] ls = false ∧ ∃ q, e = .returned (.tuple #[.map (some q), .nilIface]) ∧ w.heap.size ≤ q ∧ OwnM q n (aftF s ls) w') ∨ (overL s.bal [] ls = true ∧ e = .returned (.tuple #[.map none, errv 3]))) := by
  have r1 := run_neq_errv_nil
  have g1 := guard_neq_errv_nil
  have HLN := Lib.hid hl.1
  have HL := Lib.hid hl
  have HOK := Lib.hid hok
  have HH := Lib.hid H
  clear hl hok H
  go_enter Tryd.func38, Tryd.ntmps38
  have hmm := fun w => makeMap10 (n : Int) w
  have HM0 := Lib.hid (OwnM.made w)
  go_wp2_with fail
  go_loopw [18] (fun i wr => ∃ j : Nat, i = .int .i64 (j : Int) ∧ j ≤ n ∧ Hid (BhAt w s ls j wr) ∧ Hid (overL s.bal (ls.take j) (ls.drop j) = overL s.bal [] ls)) (fun i _ => n - (RowKit.intOf i).toNat)
  case atStart => exact ⟨0, rfl, by omega, ⟨HM0.out, (Below.refl _ _).alloc (Nat.le_refl _) _⟩, rfl⟩
  case round =>
    obtain ⟨j, rfl, hj, hX, hov⟩ := hrel
    by_cases hlt : j < n
    · have u1 : (j : Int) < (n : Int) := by omega
      obtain ⟨q, o, x, rfl, hx, hxm, x0, x1, x2⟩ := (HL.out.up hX.out.below).get hlt
      obtain ⟨W1, hW1⟩ : ∃ W1, W1 = wr.alloc (Obj.cells #[.int .i64 x.k, .int .i64 x.o, .int .i64 x.v] 56) := ⟨_, rfl⟩
      have hA : Below wr.heap.size wr W1 := by rw [hW1]; exact (Below.refl _ _).alloc (Nat.le_refl _) _
      have HBX : Hid (LnBox wr.heap.size x W1) := by rw [hW1]; exact box_new wr x
      have hx64 := HOK.out x hxm
      have HX64 := Lib.hid hx64
      have HST := Lib.hid (aftF_step s hx)
      have HOV := Lib.hid (over_step10 s.bal hx)
      have hnow := aftF_now s (ls.take j) x.k x.o
      replace hX := Lib.hid (hX.out.up hA)
      have H1 := HH.out.up hX.out.below
      obtain ⟨c0, c1⟩ := H1.cells
      obtain ⟨b0, b1, b2⟩ := HBX.out.cells
      have hl1 := hX.out.mp.look_ok hx64.1 hx64.2.1
      have hl2 : ∀ q, (Instr.lookup TMap (.map (some m)) (.agg #[.int .i64 x.k, .int .i64 x.o]) false).run Tryd.prog (W1.drewN q) = .ok (.int .i64 (s.bal x.k x.o)) (W1.drewN q) := fun q => by
        have h := (H1.mp.up (below_drewN (Below.refl _ W1) q)).look hx64.1 hx64.2.1
        rw [balF_get] at h
        exact h
      have HBL : Hid (in64 (s.bal x.k x.o)) := by
        show in64 _
        by_cases h0 : s.bal x.k x.o = 0
        · rw [h0]; unfold in64; omega
        · exact H1.mp.val hx64.1 hx64.2.1 (if_neg h0)
      have HBV : Hid (∀ v, aftF s (ls.take j) x.k x.o = some v → in64 v) := fun v hv => hX.out.mp.val hx64.1 hx64.2.1 hv
      have HXJ := Lib.hid hx
      clear hx hx64 H1 hA
      obtain ⟨B0, hB0⟩ : ∃ B0, s.bal x.k x.o + balL x.k x.o (ls.take j) = B0 := ⟨_, rfl⟩
      have HBS : Hid (s.bal x.k x.o + balL x.k x.o (ls.take j ++ [x]) = B0 + x.v) := by
        show _ = _
        rw [balL_append, ← hB0]
        simp only [balL, and_self, if_true]
        omega
      rw [hB0] at hnow
      have hW2 := hW1.symm
      cases hA : aftF s (ls.take j) x.k x.o with
      | some bv =>
        rw [hA] at hl1 hnow
        simp only [Option.isSome_some, if_true, Option.getD_some] at hl1 hnow
        have hnow' := hnow.symm
        subst hnow'
        have HB0 : Hid (in64 B0) := HBV.out B0 hA
        have HXU := hX
        clear hA hB0 hl2 hW1 hnow
        go_wp2_with fail
        try rw [hW2]
        clear hW2 hl1
        have HXW := Lib.hid (HXU.out)
        have hadd := fun w => add_any B0 x.v HB0.out HX64.out.2.2 w
        with_reducible refine (hadd _).mono ?_
        clear hadd
        rintro e w' ⟨rfl, rfl⟩
        by_cases hin : -9223372036854775808 ≤ B0 + x.v ∧ B0 + x.v ≤ 9223372036854775807
        · obtain ⟨q1, q2⟩ := ov_in hin
          rw [q1, q2]
          by_cases hmin : x.v = -9223372036854775808
          · have HOT : Hid (overL s.bal [] ls = true) := by
              show _ = _
              rw [← hov.out, HOV.out, decide_eq_true hmin]
              simp
            have t1 : (x.v == -9223372036854775808) = true := by simpa using hmin
            clear q1 q2 hin hmin hov
            go_wp2_with fail
            go_ret2
            exact ⟨HXW.out.below, Or.inr ⟨HOT.out, rfl⟩⟩
          · have t1 : (x.v == -9223372036854775808) = false := by simpa using hmin
            have HON : Hid (overL s.bal (ls.take (j + 1)) (ls.drop (j + 1)) = overL s.bal [] ls) := by
              show _ = _
              rw [← hov.out, HOV.out, decide_eq_false hmin, HBS.out, decide_eq_false (fun h => h hin)]
              rfl
            have HSM : Hid (in64 (B0 + x.v)) := hin
            clear q1 q2 hin hmin hov
            go_wp2_with (at_mapUpdate; refine wpList_put10 rfl _ _ _ rfl w.heap.size j _ rfl HXW.out.mp (by unfold maxLen; omega) x.k x.o (B0 + x.v) rfl rfl HX64.out.1 HX64.out.2.1 HSM.out ?_; intro w4 hm4 ho4)
            have HN : Hid (BhAt w s ls (j + 1) w4) := by
              refine ⟨?_, HXW.out.below.trans (ho4.below HXW.out.below.size (fun k hk => by rw [hk]; exact Nat.le_refl _))⟩
              refine hm4.cong fun k o _ _ => ?_
              rw [← HST.out k o, HBS.out]
            clear hm4 ho4
            go_wp2_with fail
            go_roundw
            case rel => exact ⟨j + 1, by go_num, by omega, HN, HON⟩
            case measure => simp [RowKit.intOf]; omega
        · obtain ⟨q1, q2⟩ := ov_out hin
          rw [q1, q2]
          have HOT : Hid (overL s.bal [] ls = true) := by
            have hni : ¬ in64 (B0 + x.v) := fun h => hin h
            show _ = _
            rw [← hov.out, HOV.out, HBS.out, decide_eq_true hni]
            rfl
          clear q1 q2 hin hov
          go_wp2_with fail
          go_ret2
          exact ⟨HXW.out.below, Or.inr ⟨HOT.out, rfl⟩⟩
      | none =>
        rw [hA] at hl1 hnow
        simp only [Option.isSome_none, Bool.false_eq_true, if_false, Option.getD_none] at hl1 hnow
        rw [hnow] at HBL hl2
        have HB0 := HBL
        clear hA hB0 hW1 hnow HBL
        go_wp2_with fail
        try rw [hW2]
        clear hW2 hl1
        go_quiet (fail)
        go_wp2_with fail
        have HXU := Lib.hid (hX.out.up (below_drewN (Below.refl _ W1) nq))
        have HXW := Lib.hid (HXU.out)
        have hadd := fun w => add_any B0 x.v HB0.out HX64.out.2.2 w
        with_reducible refine (hadd _).mono ?_
        clear hadd
        rintro e w' ⟨rfl, rfl⟩
        by_cases hin : -9223372036854775808 ≤ B0 + x.v ∧ B0 + x.v ≤ 9223372036854775807
        · obtain ⟨q1, q2⟩ := ov_in hin
          rw [q1, q2]
          by_cases hmin : x.v = -9223372036854775808
          · have HOT : Hid (overL s.bal [] ls = true) := by
              show _ = _
              rw [← hov.out, HOV.out, decide_eq_true hmin]
              simp
            have t1 : (x.v == -9223372036854775808) = true := by simpa using hmin
            clear q1 q2 hin hmin hov
            go_wp2_with fail
            go_ret2
            exact ⟨HXW.out.below, Or.inr ⟨HOT.out, rfl⟩⟩
          · have t1 : (x.v == -9223372036854775808) = false := by simpa using hmin
            have HON : Hid (overL s.bal (ls.take (j + 1)) (ls.drop (j + 1)) = overL s.bal [] ls) := by
              show _ = _
              rw [← hov.out, HOV.out, decide_eq_false hmin, HBS.out, decide_eq_false (fun h => h hin)]
              rfl
            have HSM : Hid (in64 (B0 + x.v)) := hin
            clear q1 q2 hin hmin hov
            go_wp2_with (at_mapUpdate; refine wpList_put10 rfl _ _ _ rfl w.heap.size j _ rfl HXW.out.mp (by unfold maxLen; omega) x.k x.o (B0 + x.v) rfl rfl HX64.out.1 HX64.out.2.1 HSM.out ?_; intro w4 hm4 ho4)
            have HN : Hid (BhAt w s ls (j + 1) w4) := by
              refine ⟨?_, HXW.out.below.trans (ho4.below HXW.out.below.size (fun k hk => by rw [hk]; exact Nat.le_refl _))⟩
              refine hm4.cong fun k o _ _ => ?_
              rw [← HST.out k o, HBS.out]
            clear hm4 ho4
            go_wp2_with fail
            go_roundw
            case rel => exact ⟨j + 1, by go_num, by omega, HN, HON⟩
            case measure => simp [RowKit.intOf]; omega
        · obtain ⟨q1, q2⟩ := ov_out hin
          rw [q1, q2]
          have HOT : Hid (overL s.bal [] ls = true) := by
            have hni : ¬ in64 (B0 + x.v) := fun h => hin h
            show _ = _
            rw [← hov.out, HOV.out, HBS.out, decide_eq_true hni]
            rfl
          clear q1 q2 hin hov
          go_wp2_with fail
          go_ret2
          exact ⟨HXW.out.below, Or.inr ⟨HOT.out, rfl⟩⟩
    · have u1 : ¬ (j : Int) < (n : Int) := by omega
      obtain rfl : j = n := by omega
      have HOF : Hid (overL s.bal [] ls = false) := by
        show _ = _
        rw [← hov.out, List.drop_eq_nil_of_le (by rw [HLN.out]; exact Nat.le_refl _)]
        rfl
      have HR : Hid (OwnM w.heap.size j (aftF s ls) wr) := by
        have h := hX.out.mp
        rw [List.take_of_length_le (by rw [HLN.out]; exact Nat.le_refl _)] at h
        exact h
      go_wp2_with fail
      go_ret2
      exact ⟨hX.out.below, Or.inl ⟨HOF.out, w.heap.size, rfl, Nat.le_refl _, HR.out⟩⟩
end Go.Proofs.YtcdkgfjjgebcnaaDoor
