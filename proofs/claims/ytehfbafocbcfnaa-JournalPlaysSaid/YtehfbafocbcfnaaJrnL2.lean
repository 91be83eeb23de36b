/- The walk of JournalTwice: opened once more, a journal has the records that it had, and as much room. -/
import Derived.Test.YtehfbafocbcfnaaJrnK
import Derived.Test.YtehfbafocbcfnaaDiskOne
namespace Go.Proofs.Ytehfbafocbcfnaa
open Go Go.RowKit
set_option linter.unusedVariables false

section
variable {D : Nat → (Nat → Prop) → Addr → Dsk → World → Prop} {J : Nat → (Nat → Prop) → Addr → Addr → Jr → World → Prop}

theorem Good.byt {n : Nat} {s : Dsk} {r : Jr} (h : Good n s r) : s.byt := by
  have h1 : ∀ x ∈ s.nw, x < 256 := fun x hx => by
    rw [h.nw] at hx
    rcases List.mem_append.1 hx with h' | h'
    · obtain ⟨b, hb, hx2⟩ := List.mem_flatMap.1 h'
      rcases List.mem_append.1 hx2 with h3 | h3
      · exact headN_256 _ x h3
      · exact (h.recs b hb).2.2 x h3
    · have := List.eq_of_mem_replicate h'; omega
  exact ⟨by rw [h.st]; exact h1, h1⟩

set_option maxHeartbeats 4000000 in
theorem pick8_any (c : Int) (n : Nat) (w : World) (hc : i64d c) (hn : 1 ≤ n) (hn2 : n ≤ 1000) :
    Calls Try.prog 11 #[.int .i64 c, .int .i64 (n : Int)] w fun e w' => e = .returned (.int .i64 (pickD c n : Int)) ∧ w' = w := by
  obtain ⟨x, hx, hx0, hx1⟩ : ∃ x : Int, (if c < 0 then -(c + 1) else c) = x ∧ 0 ≤ x ∧ x ≤ 9223372036854775807 := by
    obtain ⟨h1, h2⟩ := hc
    refine ⟨_, rfl, ?_, ?_⟩ <;> split <;> omega
  have hp : Hid ((pickD c n : Int) = x % (n : Int)) := by
    show (pickD c n : Int) = _
    rw [pickD, hx]
    exact Int.toNat_of_nonneg (Int.emod_nonneg _ (by omega))
  have hr0 := Int.emod_nonneg x (show (n : Int) ≠ 0 by omega)
  have hr1 := Int.emod_lt_of_pos x (show 0 < (n : Int) by omega)
  obtain ⟨r, hr⟩ : ∃ r, x % (n : Int) = r := ⟨_, rfl⟩
  rw [hr] at hp hr0 hr1
  have tq : Int.tmod x (n : Int) = r := by rw [Int.tmod_eq_emod_of_nonneg hx0, hr]
  have tw : IntKind.i64.wrap r = r := IntWalk.i64_in _ (by omega)
  have tn : ((n : Int) == 0) = false := by simp; omega
  have HX := Lib.hid hx
  have hc1 := hc.1
  have hc2 := hc.2
  clear hx hr hc
  go_enter Try.func11, Try.ntmps11
  by_cases hneg : c < 0
  all_goals
    have hin := HX.out
    first
      | rw [if_pos hneg] at hin
      | rw [if_neg hneg] at hin
    first
      | (have e0 : IntKind.i64.wrap (c + 1) = c + 1 := IntWalk.i64_in _ (by omega); have e1 : -(c + 1) = x := hin; have e2 : IntKind.i64.wrap x = x := IntWalk.i64_in _ (by omega); clear hin)
      | (subst hin)
    go_wp2_with fail
    go_ret
    exact ⟨by rw [hp.out]; rfl, rfl⟩

set_option maxRecDepth 100000 in
set_option maxHeartbeats 16000000 in
theorem journalTwice_walk (DC : Hid (DiskC D)) (JC : Hid (JrnC D J)) (blk : Int) (a : Option Addr) (len cap : Nat) (ls : List (List Nat)) (w : World) (hb : i64d blk) (hl : RowsIn w a len ls) (hc : len ≤ cap) (hm : cap ≤ maxLen) :
    Calls Try.prog 8 #[.int .i64 blk, .slice a len cap] w fun e w' => e = .returned (.bool true) ∧ Below w.heap.size w w' := by
  have HI := Lib.hid hb
  have HL := Lib.hid hl
  have hml : (len : Int) ≤ 9223372036854775807 := by unfold maxLen at hm; omega
  clear hb hl hm
  obtain ⟨n, hn, hn1⟩ : ∃ n, pickD blk 16 = n ∧ n < 16 := ⟨_, rfl, pickD_lt blk 16 (by omega)⟩
  go_enter Try.func8, Try.ntmps8
  go_wp2_with fail
  refine (up08_any DC JC _).mono ?_
  rintro e w1 ⟨rfl, hb1⟩
  have HB1 := Lib.hid hb1
  clear hb1
  go_wp2_with fail
  refine (pick8_any blk 16 w1 HI.out (by omega) (by omega)).mono ?_
  rintro e w' ⟨rfl, hw⟩
  subst w'
  rw [hn]
  clear hn
  obtain ⟨N, hN⟩ : ∃ N, n + 1 = N := ⟨_, rfl⟩
  have s1 : IntKind.i64.wrap (1 + (n : Int)) = (N : Int) := by rw [IntWalk.i64_in _ (by omega)]; omega
  have hN1 : 1 ≤ N := by omega
  have hN2 : N ≤ 16 := by omega
  clear hN
  go_wp2_with fail
  refine (DC.out.new (N : Int) _ (by unfold i64d; omega)).mono ?_
  rintro e w2 ⟨hb2, ⟨-, -, d, F1, rfl, hD1, hF1⟩ | ⟨h, -⟩⟩
  rotate_left
  · omega
  rw [Int.toNat_natCast] at hD1
  have H1 : Hid (DHold D N d (Dsk.zero N) w w2) := ⟨⟨F1, hD1, fun k hk => Nat.le_trans HB1.out.size (hF1 k hk)⟩, HB1.out.trans (hb2.mono HB1.out.size)⟩
  clear hD1 hF1 hb2
  by_cases hbig : 60 < len
  · have t1 : (60 : Int) < (len : Int) := by omega
    go_wp2_with fail
    go_ret
    exact ⟨rfl, H1.out.below⟩
  have t1 : (len : Int) ≤ 60 := by omega
  go_wp2_with fail
  refine (H1.out.open' JC.out (Dsk.byt_zero N)).mono ?_
  rintro e w3 ⟨j, rfl, hj⟩
  rw [((good_zero N).open').1, ((good_zero N).open').2] at hj
  have H2 := Lib.hid hj.k
  clear hj H1
  go_wp2_with fail
  go_loopw [10, 11] (fun v i wr => ∃ (q : Nat) (s : Dsk) (r : Jr) (vs : List Value), q ≤ len ∧ i = .int .i64 (q : Int) ∧ r.recs.length ≤ q ∧ Hid (JH D J N d j s r (fun k => v.ownBlock = some k) w wr) ∧ Hid (Good N s r) ∧ Hid (MixRecs w.heap.size v vs r.recs wr) ∧ Hid (OldIn w vs r.recs)) (fun _ i _ => len - (RowKit.intOf i).toNat)
  case atStart => exact ⟨0, _, _, [], by omega, rfl, by simp, H2.out.own DC.out JC.out (Only.refl _ _) (fun k hk => by cases hk), good_zero N, MixRecs.nil _ _, OldIn.nil _⟩
  case round =>
    obtain ⟨q, s, r, vs, hq, rfl, hrq, hJ, hG, hMx, hOld⟩ := hrel
    obtain ⟨va, vc, hv, hvc1, hvc2, hvn, hrows⟩ := hMx.out.rows
    subst hv
    have HROWS := Lib.hid hrows
    clear hrows
    by_cases hlt : q < len
    · obtain ⟨bb, oo, rfl, hcl⟩ := HL.out.2.2.resolve_left (by omega)
      obtain ⟨aj, cj, hcell, hbytes, hcj1, hcj2⟩ := hcl q hlt
      have hb256 := HL.out.2.1.at' q
      obtain ⟨x, hx⟩ : ∃ x, ls.getD q [] = x := ⟨_, rfl⟩
      rw [hx] at hcell hbytes hcj1 hb256
      obtain ⟨m, hxm⟩ : ∃ m, x.length = m := ⟨_, rfl⟩
      rw [hxm] at hcell hbytes hcj1
      have HXM := Lib.hid hxm
      have HBY := Lib.hid (And.intro hb256 hcj2)
      have HBC := Lib.hid hbytes
      have hcw : wr.cell? ⟨bb, oo + q, none⟩ = some (.slice aj m cj) := by rw [hJ.out.below.cell (p := ⟨bb, oo + q, none⟩) (cell_lt hcell)]; exact hcell
      have HCE := Lib.hid hcell
      have hmm : (m : Int) ≤ 9223372036854775807 := by have := HBY.out.2; unfold maxLen at this; omega
      have t6 : (q : Int) < (len : Int) := by omega
      have t7 : (0 : Int) ≤ (q : Int) := by omega
      have s9 : IntKind.i64.wrap ((q : Int) + 1) = (q : Int) + 1 := IntWalk.i64_in _ (by omega)
      clear hcl hx hxm hcell hbytes hb256 hcj2
      by_cases hm2 : m ≤ 2000
      · have t8 : (m : Int) ≤ 2000 := by omega
        have HKL : Hid (∀ k, (Value.slice va r.recs.length vc).ownBlock = some k → k < wr.heap.size) := fun k hk => (hMx.out.1.lt k hk).2
        go_wp2_with fail
        refine (hJ.out.append JC.out HKL.out aj m cj x (HBC.out.upB hJ.out.below) (Mine2.old HBC.out) HBY.out.1 hcj1 HBY.out.2).mono ?_
        rintro e w4 ⟨s', r', rfl, hJ4, hlets, hor⟩
        have hM4 := hMx.out.lets hlets (fun k hk => hk) (hOld.out.in' (fun k => (Value.slice va r.recs.length vc).ownBlock = some k))
        have HJ4 := Lib.hid hJ4
        have HM4 := Lib.hid hM4
        have hc4 : w4.cell? ⟨bb, oo + q, none⟩ = some (.slice aj m cj) := by rw [HJ4.out.below.cell (p := ⟨bb, oo + q, none⟩) (cell_lt HCE.out)]; exact HCE.out
        clear hJ4 hM4 hlets
        rcases hor with ⟨e0, rfl, rfl⟩ | ⟨e0, rfl, rfl⟩
        · rw [e0, show errv ((0 : Nat) : Int) = .nilIface from rfl]
          have HG2 := Lib.hid (hG.out.append e0 HBY.out.1)
          have M1 : Hid (r.recs.length + 1 ≤ maxLen) := by show r.recs.length + 1 ≤ maxLen; simp only [maxLen]; omega
          have M2 : Hid ((r.recs.length + 1) * 24 ≤ 140737488355328) := by show (r.recs.length + 1) * 24 ≤ 140737488355328; omega
          have hsz := HJ4.out.below.size
          have hal : Below w4.heap.size w4 (w4.alloc (Obj.cells #[.slice aj m cj] 27)) := (Below.refl _ _).alloc (Nat.le_refl _) _
          have HAL := Lib.hid hal
          have HR4 : Hid ((w4.alloc (Obj.cells #[.slice aj m cj] 27)).ownsRow w.heap.size 27 1 (.slice va r.recs.length vc) r.recs.length vs) := HM4.out.1.alloc _
          clear e0 hal
          go_wp2_with (at_builtin; refine wpList_append_cells rfl (.tmp 78) (.tmp 83) 53 rfl w.heap.size Tsb (.slice va r.recs.length vc) r.recs.length vs rfl HR4.out (some ⟨_, 0, none⟩) 1 1 [.slice aj m cj] rfl (fun h => by cases h) (one_new _ _ _) (one_sl _ _ _) M1.out M2.out (Nat.le_trans hsz (by simp)) ?_; intro v5 w5 o5 q5 r5 l5)
          have hM5 : MixRecs w.heap.size v5 (vs ++ [.slice aj m cj]) (r.recs ++ [x]) w5 := MixRecs.pushm HXM.out rfl (HM4.out.up HAL.out) ((HBC.out.upB HJ4.out.below).upB HAL.out) (fun y hy => (HM4.out.up HAL.out).old (w0 := w) (Nat.le_refl _) HBC.out y hy) o5 q5 l5
          have hJ5 : JH D J N d j (stgS s r x 4) (stgR r x 4) (fun k => v5.ownBlock = some k) w w5 := (HJ4.out.up DC.out JC.out HAL.out).own DC.out JC.out (only_grown8 q5) fun k hk => by
            rcases l5 with l5 | l5
            · exact Or.inl (by rw [← l5]; exact hk)
            · rw [l5] at hk; cases hk; exact Or.inr (Nat.le_refl _)
          exact ⟨⟨q + 1, _, _, _, by omega, by go_num, by show (r.recs ++ [x]).length ≤ q + 1; rw [List.length_append, List.length_singleton]; omega, hJ5, HG2.out, hM5, hOld.out.push HXM.out HBC.out⟩, by simp [RowKit.intOf]; omega⟩
        · obtain ⟨k, hk, hk0⟩ : ∃ k : Nat, mayN N r' x = k ∧ k ≠ 0 := ⟨_, rfl, e0⟩
          rw [hk]
          have qe := fun (w : World) (k : Int) => run_eql_errv_nil w k
          have qg := fun (t : TypeId) (x : Operand) (c : Value) (k : Int) => guard_eql_errv_nil t x c k
          have t9 : ((k : Int) == 0) = false := by simp; omega
          clear e0 hk
          go_wp2_with fail
          exact ⟨⟨q + 1, _, _, _, by omega, by go_num, by omega, HJ4.out, hG.out, HM4.out, hOld.out⟩, by simp [RowKit.intOf]; omega⟩
      · have t8 : ¬ (m : Int) ≤ 2000 := by omega
        go_wp2_with fail
        go_ret
        exact ⟨rfl, hJ.out.below⟩
    · have t6 : ¬ (q : Int) < (len : Int) := by omega
      have HKL : Hid (∀ k, (Value.slice va r.recs.length vc).ownBlock = some k → k < wr.heap.size) := fun k hk => (hMx.out.1.lt k hk).2
      go_wp2_with fail
      refine (hJ.out.reopen DC.out JC.out HKL.out hG.out.byt).mono ?_
      rintro e w4 ⟨j2, rfl, hJ4, hJ4b, hlets⟩
      rw [hG.out.open'.1, hG.out.open'.2] at hJ4
      rw [hG.out.open'.1] at hJ4b
      have HJ4 := Lib.hid hJ4
      have HJ4b := Lib.hid hJ4b
      have HM4 := Lib.hid (hMx.out.lets hlets (fun k hk => hk) (hOld.out.in' (fun k => (Value.slice va r.recs.length vc).ownBlock = some k)))
      clear hJ4 hJ4b hlets
      go_wp2_with fail
      refine (HJ4.out.free DC.out JC.out).mono ?_
      rintro e w5 ⟨rfl, hJ5, hb5⟩
      have HJ5 := Lib.hid hJ5
      have HJ5b := Lib.hid (HJ4b.out.up DC.out JC.out hb5)
      have HM5 := Lib.hid (HM4.out.up hb5)
      clear hJ5 hb5
      go_wp2_with fail
      refine (HJ5b.out.free DC.out JC.out).mono ?_
      rintro e w6 ⟨rfl, hJ6, hb6⟩
      have HJ6 := Lib.hid (HJ5.out.up DC.out JC.out hb6)
      have HM6 := Lib.hid (HM5.out.up hb6)
      clear hJ6 hb6
      go_wp2_with fail
      refine (HJ6.out.records DC.out JC.out).mono ?_
      rintro e w7 ⟨vr, rfl, hown, hJ7, hb7⟩
      obtain ⟨ra, rc, rfl, hrc, -, hrr⟩ := hown.rows
      have HRR := Lib.hid hrr
      have HJ7 := Lib.hid hJ7
      obtain ⟨va', vc', hveq, -, -, -, hrm⟩ := (HM6.out.up hb7).rows
      have HRM : Hid (RowsOf w7 va r.recs.length r.recs) := by
        injection hveq with e1 _ _
        rw [e1]; exact hrm
      clear hown hrr hJ7 hb7 hveq hrm
      obtain ⟨R, hR⟩ : ∃ R, r.recs = R := ⟨_, rfl⟩
      have HBYT : Hid (Byts R) := by rw [← hR]; exact fun x hx => (hG.out.recs x hx).2.2
      have hRl : R.length ≤ len := by rw [← hR]; omega
      rw [hR] at HRR HRM ⊢
      clear hR hrq
      obtain ⟨L, hL⟩ : ∃ L, R.length = L := ⟨_, rfl⟩
      rw [hL] at HRR HRM hRl ⊢
      have HLL := Lib.hid hL
      clear hL
      go_wp2_with fail
      go_loopw [16] (fun i wi => ∃ (q p : Nat), q ≤ L ∧ i = .int .i64 (q : Int) ∧ wi = w7.drewN p) (fun i _ => L - (RowKit.intOf i).toNat)
      case atStart => exact ⟨0, 0, by omega, rfl, rfl⟩
      case round =>
        obtain ⟨q, p, hq, rfl, rfl⟩ := hrel
        by_cases hlt : q < L
        · obtain ⟨b1, o1, rfl, hc1⟩ := HRR.out.2.resolve_left (by omega)
          obtain ⟨b2, o2, rfl, hc2⟩ := HRM.out.2.resolve_left (by omega)
          obtain ⟨a1, k1, g1, f1⟩ := hc1 q hlt
          obtain ⟨a2, k2, g2, f2⟩ := hc2 q hlt
          obtain ⟨x, hx⟩ : ∃ x, R.getD q [] = x := ⟨_, rfl⟩
          rw [hx] at g1 f1 g2 f2
          have HT1 : Hid (∀ W', Below w7.heap.size w7 W' → (convert 27 9 (.slice a1 x.length k1)).run Try.prog W' = .ok (.string (strB x)) W') := fun W' h => run_str_row (f1.upB h)
          have HT2 : Hid (∀ W', Below w7.heap.size w7 W' → (convert 27 9 (.slice a2 x.length k2)).run Try.prog W' = .ok (.string (strB x)) W') := fun W' h => run_str_row (f2.upB h)
          have HC1 : Hid (∀ W', Below w7.heap.size w7 W' → W'.cell? ⟨b1, o1 + q, none⟩ = some (.slice a1 x.length k1)) := fun W' h => by rw [h.cell (p := ⟨b1, o1 + q, none⟩) (cell_lt g1)]; exact g1
          have HC2 : Hid (∀ W', Below w7.heap.size w7 W' → W'.cell? ⟨b2, o2 + q, none⟩ = some (.slice a2 x.length k2)) := fun W' h => by rw [h.cell (p := ⟨b2, o2 + q, none⟩) (cell_lt g2)]; exact g2
          have HW : Hid (Below w7.heap.size w7 (w7.drewN p).drew) := below_drewN (below_drewN (Below.refl _ _) p) 1
          have t6 : (q : Int) < (L : Int) := by omega
          have t7 : (0 : Int) ≤ (q : Int) := by omega
          have s9 : IntKind.i64.wrap ((q : Int) + 1) = (q : Int) + 1 := IntWalk.i64_in _ (by omega)
          have hst : ((strB x).toList == (strB x).toList) = true := strB_same _
          clear hx hc1 hc2 g1 f1 g2 f2
          go_wp2_with fail
          go_region_held3 (fun w' => (convert 27 9 (.slice a1 x.length k1)).run Try.prog w' = .ok (.string (strB x)) w' ∧ (convert 27 9 (.slice a2 x.length k2)).run Try.prog w' = .ok (.string (strB x)) w' ∧
              w'.cell? ⟨b1, o1 + q, none⟩ = some (.slice a1 x.length k1) ∧ w'.cell? ⟨b2, o2 + q, none⟩ = some (.slice a2 x.length k2))
            (first | exact ⟨HT1.out _ HW.out, HT2.out _ HW.out, HC1.out _ HW.out, HC2.out _ HW.out⟩ | assumption)
            (fail)
          go_wp2_with fail
          exact ⟨⟨q + 1, p + 1, by omega, by go_num, by first | rfl | exact World.drewN_drewN _ _ _⟩, by simp [RowKit.intOf]; omega⟩
        · obtain rfl : q = L := by omega
          go_wp2_with fail
          go_ret
          exact ⟨rfl, below_drewN HJ7.out.below p⟩
end
end Go.Proofs.Ytehfbafocbcfnaa
