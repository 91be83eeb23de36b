/- The walk of CentsSums: what the sum of any numbers is, or that it has no room. -/
import Derived.Test.YtheplpfhgifkcaaCentsTwo
import Derived.Test.YtheplpfhgifkcaaCentsOrder
namespace Go.Proofs.Ytheplpfhgifkcaa
open Go Go.RowKit
set_option linter.unusedVariables false

/-- a long number in a variable of its own -/
structure NumVar (w : World) (N : Nat) (n : Int) (a : Option Addr) (len cap : Nat) (m : Bool) : Prop where
  c0 : w.cell? ⟨N, 0, none⟩ = some (.slice a len cap)
  c1 : w.cell? ⟨N, 1, none⟩ = some (.bool m)
  f0 : w.frozen? ⟨N, 0, none⟩ = false
  f1 : w.frozen? ⟨N, 1, none⟩ = false
  num : NumAt w (.agg #[.slice a len cap, .bool m]) n
  sz : ∀ o, 2 ≤ o → w.cell? ⟨N, o, none⟩ = none

theorem NumVar.up {w w' : World} {N : Nat} {n : Int} {a : Option Addr} {len cap : Nat} {m : Bool} (h : NumVar w N n a len cap m) (hb : Below w.heap.size w w') : NumVar w' N n a len cap m := by
  obtain ⟨hc, hf⟩ := bcell hb
  have hlt : N < w.heap.size := cell_lt h.c0
  exact ⟨by rw [hc _ _ hlt]; exact h.c0, by rw [hc _ _ hlt]; exact h.c1, by rw [hf _ _ hlt]; exact h.f0, by rw [hf _ _ hlt]; exact h.f1, h.num.up hb, fun o ho => by rw [hc _ _ hlt]; exact h.sz o ho⟩

/-- a number's digits lie elsewhere -/
theorem NumVar.far {w : World} {N : Nat} {n n' : Int} {a a' : Option Addr} {len cap len' cap' : Nat} {m m' : Bool} (h : NumVar w N n a len cap m) (hn : NumAt w (.agg #[.slice a' len' cap', .bool m']) n') :
    ∀ x, a' = some x → len' = 0 ∨ x.block ≠ N := by
  intro x hx
  obtain ⟨a2, l2, c2, ds, he, hc, _⟩ := hn
  simp only [Value.agg.injEq, Array.mk.injEq, List.cons.injEq, Value.slice.injEq, Value.bool.injEq, and_true] at he
  obtain ⟨⟨rfl, rfl, rfl⟩, _⟩ := he
  by_cases h0 : len' = 0
  · exact Or.inl h0
  · right
    obtain ⟨b, off, rfl, hcell⟩ := hc.digit (i := 0) (by omega)
    cases hx
    intro e
    have e' : b = N := e
    subst e'
    rw [Nat.add_zero] at hcell
    have h3 : off = 0 ∨ off = 1 ∨ 2 ≤ off := by omega
    rcases h3 with rfl | rfl | h3
    · rw [h.c0] at hcell; cases hcell
    · rw [h.c1] at hcell; cases hcell
    · rw [h.sz off h3] at hcell; cases hcell

/-- stored into the variable -/
theorem NumVar.put {w : World} {N : Nat} {n n' : Int} {a a' : Option Addr} {len cap len' cap' : Nat} {m m' : Bool} (h : NumVar w N n a len cap m) (hn : NumAt w (.agg #[.slice a' len' cap', .bool m']) n') :
    NumVar ((w.setCell ⟨N, 0, none⟩ (.slice a' len' cap')).setCell ⟨N, 1, none⟩ (.bool m')) N n' a' len' cap' m' := by
  have hblk := h.far hn
  obtain ⟨a2, l2, c2, ds, he, hc, hrest⟩ := hn
  have h0 := h.c0
  have h1 := h.c1
  have hf0 := h.f0
  have hf1 := h.f1
  simp only [Value.agg.injEq, Array.mk.injEq, List.cons.injEq, Value.slice.injEq, Value.bool.injEq, and_true] at he
  obtain ⟨⟨rfl, rfl, rfl⟩, rfl⟩ := he
  refine ⟨?_, ?_, ?_, ?_, ⟨a', len', cap', ds, rfl, cells_two hc hblk _ _, hrest⟩, fun o ho => ?_⟩
  · rw [World.cell?_setCell_other]
    · exact World.cell?_setCell_same _ _ _ h0
    · intro e; cases e
  · have h2 : (w.setCell ⟨N, 0, none⟩ (.slice a' len' cap')).cell? ⟨N, 1, none⟩ = some (.bool m) := by
      rw [World.cell?_setCell_other]
      · exact h1
      · intro e; cases e
    exact World.cell?_setCell_same _ _ _ h2
  · rw [World.frozen?_setCell, World.frozen?_setCell]; exact hf0
  · rw [World.frozen?_setCell, World.frozen?_setCell]; exact hf1
  · rw [World.cell?_setCell_other, World.cell?_setCell_other]
    · exact h.sz o ho
    · intro e; injection e with _ e2; omega
    · intro e; injection e with _ e2; omega

theorem new_none (w : World) {a b : Value} {t : TypeId} {o : Nat} (ho : 2 ≤ o) : (w.alloc (Obj.cells #[a, b] t)).cell? ⟨w.heap.size, o, none⟩ = none := by
  rw [cell_of_row (w.alloc (Obj.cells #[a, b] t)) w.heap.size o #[a, b] t (0, 0) (heap_alloc_new w _)]
  simp; omega

theorem small_sum (l : List Int) (h : ∀ n ∈ l, -9223372036854775808 ≤ n ∧ n ≤ 9223372036854775807) (hl : l.length ≤ 1000) : Small (sumI l) := by
  have := sumI_bound l h
  exact small_64 (by omega)

theorem build_num (w : World) : (Instr.build 25 #[]).run Try.prog w = .ok (.agg #[.slice none 0 0, .bool false]) w := run_build w 25 #[] _ (by kernel_rfl)
attribute [local go_sem] build_num

set_option maxHeartbeats 4000000 in
theorem sums_walk (b off len cap : Nat) (zs : List Int) (s k : Int) (w : World) (hz : Hid (zs.length = len)) (h : len ≤ 1000) (hpos : 0 < len)
    (hb : Hid (∀ n ∈ zs, -9223372036854775808 ≤ n ∧ n ≤ 9223372036854775807))
    (hc : Hid (∀ j, j < len → w.cell? ⟨b, off + j, none⟩ = some (.int .i64 (zs.getD j 0)))) (vS : Hid (ovV (sumI zs) = s ∧ ovE (sumI zs) = k)) :
    Calls Try.prog 4 #[.slice (some ⟨b, off, none⟩) len cap] w fun e w' => e = .returned (.bool true) ∧ Below w.heap.size w w' := by
  have c : ¬ (1000 : Int) < (len : Int) := by omega
  have hlt : b < w.heap.size := cell_lt (hc.out 0 hpos)
  have g0 : Elems w (some ⟨b, off, none⟩) len zs := ⟨hz.out, hb.out, Or.inr ⟨b, off, rfl, hc.out⟩⟩
  have C0 : Hid (∀ W, Below w.heap.size w W → Elems W (some ⟨b, off, none⟩) len zs) := fun W hW => cells_elems ((elems_cells g0).below hW (fun x hx => by cases hx; exact Or.inr hlt)) hb.out
  clear g0
  go_enter Try.func4, Try.ntmps4
  go_wp2_with fail
  refine (up_any _).mono ?_
  rintro e w0 ⟨rfl, n, hw0⟩
  have BW : Below w.heap.size w w0 := by rw [hw0]; exact below_drewN (Below.refl _ _) _
  clear hw0
  go_wp2_with fail
  go_loopw [5] (fun i wr => ∃ (j : Nat) (a : Option Addr) (l c : Nat) (m : Bool), j ≤ len ∧ i = .int .i64 j ∧ NumVar wr w0.heap.size (sumI (zs.take j)) a l c m ∧ Below w.heap.size w wr) (fun i _ => len - (RowKit.intOf i).toNat)
  case atStart =>
    refine ⟨0, none, 0, 0, false, by omega, rfl, ?_, BW.alloc BW.size _⟩
    refine ⟨by simp, by simp, by simp, by simp, ⟨none, 0, 0, [], rfl, ⟨rfl, Or.inl rfl⟩, fun _ => rfl, Nat.le_refl _, canon_nil, by simp [val, sumI]⟩, fun o ho => new_none w0 ho⟩
  case round =>
    obtain ⟨j, a, l, c', m, hj, rfl, hv, hbel⟩ := hrel
    by_cases hjl : j < len
    · obtain ⟨x, hx⟩ : ∃ x, zs.getD j 0 = x := ⟨_, rfl⟩
      have hel := old_cell hbel (hc.out j hjl) hlt
      rw [hx] at hel
      have hxb : -9223372036854775808 ≤ x ∧ x ≤ 9223372036854775807 := by
        rw [← hx, List.getD_eq_getElem?_getD, List.getElem?_eq_getElem (by rw [hz.out]; exact hjl)]
        exact hb.out _ (List.getElem_mem _)
      have hst := sumI_take zs j (by rw [hz.out]; exact hjl)
      rw [hx] at hst
      have HST := Lib.hid hst
      have i1 : (0 : Int) ≤ (j : Int) := by omega
      have i2 : (j : Int) < (len : Int) := by omega
      have k0 := hv.c0
      have k1 := hv.c1
      have HV := Lib.hid hv
      clear hx hst hv
      go_wp2_with fail
      have sm1 : Hid (Small (sumI (zs.take j))) := small_sum _ (fun n hn => hb.out n (List.mem_of_mem_take hn)) (by rw [List.length_take]; omega)
      have sm2 : Hid (Small x) := small_64 (by omega)
      go_region_law (first
        | (go_simp; go_at_call 13; refine (of_any x hxb _).mono ?_; rintro e x1 ⟨u1, rfl, M1, P1⟩
           have B1 : Below wr.heap.size wr x1 := Below.trans (by first | exact (Below.refl _ _).drew | exact below_drewN (Below.refl _ _) _) P1
           have V1 := HV.out.up B1
           have k0' := V1.c0
           have k1' := V1.c1
           have HV1 := Lib.hid V1
           have M1' := Lib.hid M1
           clear V1 M1 P1)
        | (go_simp; go_at_call 18; refine (addN_any (.agg #[.slice a l c', .bool m]) u1 (sumI (zs.take j)) x _ HV1.out.num M1'.out sm1.out sm2.out).mono ?_; rintro e x2 ⟨u2, rfl, M2, P2⟩
           obtain ⟨a4, l4, c4, d4, rfl, R4⟩ := M2
           obtain ⟨m4, hm4⟩ : ∃ m4, decide (sumI (zs.take j) + x < 0) = m4 := ⟨_, rfl⟩
           have V2 := (HV1.out.up P2)
           have k0'' := V2.c0
           have k1'' := V2.c1
           have f0'' := V2.f0
           have f1'' := V2.f1
           have HP : Hid (NumVar ((x2.setCell ⟨w0.heap.size, 0, none⟩ (.slice a4 l4 c4)).setCell ⟨w0.heap.size, 1, none⟩ (.bool m4)) w0.heap.size (sumI (zs.take (j + 1))) a4 l4 c4 m4) := by
             rw [HST.out, ← hm4]; exact V2.put ⟨a4, l4, c4, d4, rfl, R4⟩
           have HB : Hid (Below w.heap.size w ((x2.setCell ⟨w0.heap.size, 0, none⟩ (.slice a4 l4 c4)).setCell ⟨w0.heap.size, 1, none⟩ (.bool m4))) :=
             (((hbel.trans (B1.mono hbel.size)).trans (P2.mono (Nat.le_trans hbel.size B1.size))).setCell BW.size _).setCell BW.size _
           rw [hm4]
           clear V2 P2 R4 hm4))
      all_goals
        go_wp2_with fail
        go_roundw
        case rel => exact ⟨j + 1, a4, l4, c4, m4, by omega, by go_num, HP.out, HB.out⟩
        case measure => simp [RowKit.intOf]; omega
    · have i2 : ¬ (j : Int) < (len : Int) := by omega
      have hfull : zs.take j = zs := List.take_of_length_le (by rw [hz.out]; omega)
      rw [hfull] at hv
      have sm : Hid (Small (sumI zs)) := small_sum _ hb.out (by rw [hz.out]; exact h)
      have HV := Lib.hid hv
      have k0 := hv.c0
      have k1 := hv.c1
      clear hfull hv
      go_wp2_with fail
      refine (sum_any _ _ _ zs _ (by omega) (C0.out _ hbel)).mono ?_
      rintro e w3 ⟨rfl, rfl⟩
      rw [vS.out.1, vS.out.2]
      go_wp2_with fail
      refine (told_any s k (.agg #[.slice a l c', .bool m]) (sumI zs) _ vS.out.1 vS.out.2 HV.out.num sm.out).mono ?_
      rintro e w4 ⟨rfl, P4⟩
      go_wp2_with fail
      go_ret
      exact ⟨by simp, hbel.trans (P4.mono hbel.size)⟩

set_option maxHeartbeats 2000000 in
theorem sums_zero (a : Option Addr) (cap : Nat) (w : World) :
    Calls Try.prog 4 #[.slice a 0 cap] w fun e w' => e = .returned (.bool true) ∧ Below w.heap.size w w' := by
  have sm : Small 0 := small_64 (by decide)
  go_enter Try.func4, Try.ntmps4
  go_wp2_with fail
  refine (up_any _).mono ?_
  rintro e w0 ⟨rfl, n, hw0⟩
  have BW : Below w.heap.size w w0 := by rw [hw0]; exact below_drewN (Below.refl _ _) _
  clear hw0
  go_wp2_with fail
  go_loop [5] (fun i => i = .int .i64 0) (fun _ => 0)
  case atStart => rfl
  case round =>
    obtain rfl := hrel
    go_wp2_with fail
    refine (sum_empty _ _ _).mono ?_
    rintro e w3 ⟨rfl, rfl⟩
    rw [← errv_0]
    go_wp2_with fail
    refine (told_any 0 0 (.agg #[.slice none 0 0, .bool false]) 0 _ rfl rfl ⟨none, 0, 0, [], rfl, ⟨rfl, Or.inl rfl⟩, fun _ => rfl, Nat.le_refl _, canon_nil, rfl⟩ sm).mono ?_
    rintro e w4 ⟨rfl, P4⟩
    go_wp2_with fail
    go_ret
    exact ⟨by simp, (BW.alloc BW.size _).trans (P4.mono (by have := BW.size; simp; omega))⟩

set_option maxHeartbeats 1000000 in
theorem sums_long (a : Option Addr) (len cap : Nat) (w : World) (h : 1000 < len) (hm : len ≤ 9223372036854775807) :
    Calls Try.prog 4 #[.slice a len cap] w fun e w' => e = .returned (.bool true) ∧ Below w.heap.size w w' := by
  have c : (1000 : Int) < (len : Int) := by omega
  go_enter Try.func4, Try.ntmps4
  go_wp2_with fail
  refine (up_any _).mono ?_
  rintro e w' ⟨rfl, n, rfl⟩
  go_wp2_with fail
  go_ret
  exact ⟨rfl, below_drewN (Below.refl _ _) _⟩

theorem centsSums_walk (a : Option Addr) (len cap : Nat) (zs : List Int) (w : World) (h : IsRow .i64 w a len cap zs) :
    Calls Try.prog 4 #[.slice a len cap] w fun e w' => e = .returned (.bool true) ∧ Below w.heap.size w w' := by
  obtain ⟨⟨e1, e2, e3⟩, e4, e5⟩ := row_elems h
  by_cases hl : 1000 < len
  · exact sums_long a len cap w hl (by simp [maxLen] at e5; omega)
  · by_cases h0 : len = 0
    · subst h0; exact sums_zero a cap w
    · rcases e3 with e3 | ⟨b, off, rfl, hc⟩
      · exact absurd e3 h0
      · exact sums_walk b off len cap _ _ _ w (Lib.hid e1) (by omega) (by omega) (Lib.hid e2) (Lib.hid hc) (Lib.hid ⟨rfl, rfl⟩)
end Go.Proofs.Ytheplpfhgifkcaa
