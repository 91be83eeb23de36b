/- The walk of BookZero: balances sum to 0, whatever is done. -/
import Derived.Test.YtcdkgfjjgebcnaaDoorBookK
import Derived.Test.YtcdkgfjjgebcnaaDoorBookUp
import Derived.Test.YtcdkgfjjgebcnaaDoorBookDeed
import Derived.Test.YtcdkgfjjgebcnaaDoorBookNum3
import Derived.Test.YtcdkgfjjgebcnaaDoorNumVar
import Derived.Deep.RegionHeld3
namespace Go.Proofs.YtcdkgfjjgebcnaaDoor
open Go Go.RowKit
set_option linter.unusedVariables false

/-- books as the law keeps them -/
def Kept10 (s : Bk) : Prop := Zeros s ∧ InB s ∧ MayAll s
theorem kept_post {s s' : Bk} {ls : List Ln} {n : Int} {k : Nat} (h : PostRel s ls n k s') (hw : Kept10 s) : Kept10 s' := by
  obtain ⟨h0, ⟨rfl, _, rfl⟩ | ⟨_, _, rfl⟩⟩ := h
  · exact ⟨zeros_post hw.1 (mayN_sum h0.symm), inB_post hw.2.1 h0.symm, mayAll_post hw.2.2 h0.symm⟩
  · exact hw
theorem kept_rev {s s' : Bk} {m : Int} {n : Int} {k : Nat} (h : RevRel s m n k s') (hw : Kept10 s) : Kept10 s' := by
  obtain ⟨h0, ⟨rfl, _, rfl⟩ | ⟨_, _, rfl⟩⟩ := h
  · exact ⟨zeros_rev hw.1, inB_rev hw.2.1 h0.symm, mayAll_rev hw.2.2 h0.symm⟩
  · exact hw
theorem pickB3_lt (c : Int) : pickB c 3 < 3 := by
  unfold pickB
  have h1 := Int.emod_nonneg (if c < 0 then -(c + 1) else c) (show (3 : Int) ≠ 0 by omega)
  have h2 := Int.emod_lt_of_pos (if c < 0 then -(c + 1) else c) (show 0 < (3 : Int) by omega)
  have e : ((3 : Nat) : Int) = 3 := rfl
  rw [e]
  omega

/-- a sum in its variable, and the line that is looked at -/
structure Z10 (w5 : World) (n : Int) (a : Option Addr) (l c : Nat) (m : Bool) (g o : Nat) (x : Ln) (wr : World) : Prop where
  num : NumVar wr w5.heap.size n a l c m
  below : Below w5.heap.size w5 wr
  c0 : wr.cell? ⟨g, o, none⟩ = some (.int .i64 x.k)
  c1 : wr.cell? ⟨g, o + 1, none⟩ = some (.int .i64 x.o)
  c2 : wr.cell? ⟨g, o + 2, none⟩ = some (.int .i64 x.v)
section
variable {w5 : World} {n : Int} {a : Option Addr} {l c : Nat} {m : Bool} {g o : Nat} {x : Ln} {wr w6 : World}
theorem Z10.call (h : Z10 w5 n a l c m g o x wr) (hb : Below wr.heap.size wr w6) : Z10 w5 n a l c m g o x w6 :=
  ⟨h.num.up hb, h.below.trans (hb.mono h.below.size), by rw [hb.cell (p := ⟨g, o, none⟩) (cell_lt h.c0)]; exact h.c0, by rw [hb.cell (p := ⟨g, o + 1, none⟩) (cell_lt h.c1)]; exact h.c1, by rw [hb.cell (p := ⟨g, o + 2, none⟩) (cell_lt h.c2)]; exact h.c2⟩
theorem Z10.drewN (h : Z10 w5 n a l c m g o x wr) (k : Nat) : Z10 w5 n a l c m g o x (wr.drewN k) := h.call (below_drewN (Below.refl _ _) k)
theorem Z10.drew (h : Z10 w5 n a l c m g o x wr) : Z10 w5 n a l c m g o x wr.drew := h.call (Below.refl _ _).drew
theorem Z10.s (h : Z10 w5 n a l c m g o x wr) : wr.cell? ⟨g, o, none⟩ = some (.int .i64 x.k) ∧ wr.cell? ⟨g, o + 1, none⟩ = some (.int .i64 x.o) ∧ wr.cell? ⟨g, o + 2, none⟩ = some (.int .i64 x.v) := ⟨h.c0, h.c1, h.c2⟩
end
theorem small_sumV (l : List Ln) (h : ∀ x ∈ l, in64 x.v) (hl : l.length ≤ 9223372036854775807) : Small (sumV l) := by
  have h1 := sumV_bound l h
  have h2 : l.length * 9223372036854775808 ≤ 9223372036854775807 * 9223372036854775808 := Nat.mul_le_mul_right _ hl
  have h3 : 9223372036854775807 * 9223372036854775808 < 65536 ^ 60 := by decide
  exact Nat.lt_of_le_of_lt (Nat.le_trans h1 h2) h3
theorem small_in64 {n : Int} (h : in64 n) : Small n := by
  have h3 : 9223372036854775808 < 65536 ^ 60 := by decide
  unfold Small in64 at *
  omega

set_option maxRecDepth 100000 in
set_option maxHeartbeats 8000000 in
theorem bookZero_walk {B : (Nat → Prop) → Addr → Bk → World → Prop} (C : Hid (BookC B)) (a : Option Addr) (c : Nat) (vs : List DeedL) (w : World) (T : Hid (Kin w)) (ha : Deeds10 w a vs)
    (hn : vs.length ≤ c) (hcm : c ≤ maxLen) :
    Calls Tryd.prog 4 #[.slice a vs.length c] w fun e w' => e = .returned (.bool true) ∧ Below w.heap.size w w' := by
  have HA := Lib.hid ha
  have hml : vs.length ≤ 9223372036854775807 := by unfold maxLen at hcm; omega
  have HSH := Lib.hid (fun w1 hb1 => short_any a c vs w1 (ha.up (w := w) (W := w1) hb1) hn hcm)
  obtain ⟨len, hlen⟩ : ∃ len, vs.length = len := ⟨_, rfl⟩
  have HL := Lib.hid hlen
  rw [hlen] at HSH hn hml ⊢
  clear ha hcm hlen
  obtain ⟨sh, hsh⟩ : ∃ sh, shortL vs = sh := ⟨_, rfl⟩
  have HS := Lib.hid hsh
  rw [hsh] at HSH
  clear hsh
  go_enter Tryd.func4, Tryd.ntmps4
  go_wp2_with fail
  refine (up10_any C _ T.out).mono ?_
  rintro e w1 ⟨rfl, hb1⟩
  have HB1 := Lib.hid hb1
  clear hb1
  go_wp2_with fail
  refine (HSH.out _ HB1.out).mono ?_
  rintro e w2 ⟨rfl, hb2⟩
  replace HB1 := Lib.hid (HB1.out.trans (hb2.mono HB1.out.size))
  clear hb2
  have HA2 := Lib.hid (HA.out.up HB1.out)
  go_wp2_with fail
  have HT2 := Lib.hid (T.out.of HB1.out)
  refine (BHold.new C.out _ HT2.out).mono ?_
  rintro e w3 ⟨p, rfl, hp⟩
  have HP := Lib.hid hp
  clear hp
  cases sh with
  | true =>
    go_wp2_with fail
    go_loopw [6] (fun i wr => ∃ (j : Nat) (s : Bk), i = .int .i64 (j : Int) ∧ j ≤ len ∧ j ≤ 40 ∧ Hid (BHold B p s w2 wr ∧ Kept10 s)) (fun i _ => 40 - (RowKit.intOf i).toNat)
    case atStart => exact ⟨0, _, rfl, by omega, by omega, HP.out, zeros_zero, inB_zero, mayAll_zero⟩
    case round =>
      obtain ⟨j, s, rfl, hj, hj40, hh⟩ := hrel
      by_cases hlt : j < len ∧ j < 40
      · obtain ⟨hl1, hl2⟩ := hlt
        have u1 : (j : Int) < (len : Int) := by omega
        have u2 : (j : Int) < 40 := by omega
        obtain ⟨g, o, v, rfl, hv, hat, hok⟩ := HA2.out.get (j := j) (by rw [HL.out]; exact hl1)
        obtain ⟨c0, c1, c2⟩ := hat.up hh.out.1.below
        have hv100 := shortL_at HS.out hl2 hv
        have HOK := Lib.hid hok
        clear hok hv hat
        obtain ⟨pk, hpk, hpk3⟩ : ∃ pk, pickB v.k 3 = pk ∧ pk < 3 := ⟨_, rfl, pickB3_lt _⟩
        go_wp2_with fail
        refine (pick10_any v.k 3 _ HOK.out.hk (by omega) (by omega)).mono ?_
        rintro e w4 ⟨rfl, hw4⟩
        rw [hw4, hpk]
        clear hw4 hpk
        by_cases h2 : pk = 2
        · subst h2
          have z0 : (((2 : Nat) : Int) == 2) = true := rfl
          have z1 : ((2 : Int) == 2) = true := rfl
          go_wp2_with fail
          refine (hh.out.1.reverse C.out v.n HOK.out.hn).mono ?_
          rintro e w5 hrev
          obtain ⟨p1, k1, s1, rfl, h1, hr1⟩ := hrev.rel
          have H1 : Hid (BHold B p s1 w2 w5 ∧ Kept10 s1) := ⟨h1, kept_rev hr1 hh.out.2⟩
          clear h1 hr1 hrev hh
          go_wp2_with fail
          go_roundw
          case rel => exact ⟨j + 1, s1, by go_num, by omega, by omega, H1⟩
          case measure => simp [RowKit.intOf]; omega
        · have z0 : ((pk : Int) == 2) = false := by simp; omega
          go_wp2_with fail
          refine (hh.out.1.postOld C.out v.a v.m v.c v.ls HOK.out.hl HOK.out.ho HOK.out.hc HOK.out.hm (by omega)).mono ?_
          rintro e w5 hpost
          obtain ⟨p1, k1, s1, rfl, h1, hr1⟩ := hpost.rel
          have H1 : Hid (BHold B p s1 w2 w5 ∧ Kept10 s1) := ⟨h1, kept_post hr1 hh.out.2⟩
          clear h1 hr1 hpost hh
          go_wp2_with fail
          go_roundw
          case rel => exact ⟨j + 1, s1, by go_num, by omega, by omega, H1⟩
          case measure => simp [RowKit.intOf]; omega
      · have hcase : (¬ (j : Int) < (len : Int)) ∨ ((j : Int) < (len : Int) ∧ ¬ (j : Int) < 40) := by omega
        have HH := Lib.hid (And.intro hh.out.1 hh.out.2)
        clear hlt hh
        rcases hcase with u1 | ⟨u1, u2⟩
        all_goals
          go_wp2_with fail
          refine (HH.out.1.trial C.out).mono ?_
          rintro e w5 ⟨v1, l1, rfl, hi1, ht1, h1, -⟩
          have H1 := Lib.hid h1
          have HT1 := Lib.hid ht1
          obtain ⟨x1, c1, rfl, ⟨hc1, hm1⟩, hL1, -⟩ := hi1
          have HL1 := Lib.hid hL1
          clear h1 ht1 hL1
          go_wp2_with fail
          have hmem : ∀ x ∈ l1, x.v = s.bal x.k x.o ∧ x.v ≠ 0 := fun x hx => (HT1.out.2 x).1 hx
          have HV64 : Hid (∀ x ∈ l1, in64 x.v) := fun x hx => by rw [(hmem x hx).1]; exact HH.out.2.2.1 _ _
          have HMEM := Lib.hid hmem
          have HZ : Hid (sumV l1 = 0) := trial_zeros HH.out.2.1 HT1.out
          have HBW := Lib.hid (HB1.out.trans (H1.out.below.mono HB1.out.size))
          have hsz5 : w.heap.size ≤ w5.heap.size := HBW.out.size
          have HSZ := Lib.hid hsz5
          have HHK := Lib.hid H1.out
          clear hmem hsz5 HT1
          go_loopw [9] (fun i wr => ∃ (j : Nat) (a : Option Addr) (l c : Nat) (m : Bool), i = .int .i64 (j : Int) ∧ j ≤ l1.length ∧ Hid (NumVar wr w5.heap.size (sumV (l1.take j)) a l c m) ∧ Hid (Below w5.heap.size w5 wr)) (fun i _ => l1.length - (RowKit.intOf i).toNat)
          case atStart =>
            refine ⟨0, none, 0, 0, false, rfl, by omega, ⟨by simp, by simp, by simp, by simp, ⟨none, 0, 0, [], rfl, ⟨rfl, Or.inl rfl⟩, nil_none, Nat.le_refl _, canon_nil, by simp [val, sumV]⟩, fun o ho => new_none w5 ho⟩, (Below.refl _ _).alloc (Nat.le_refl _) _⟩
          case round =>
            obtain ⟨j, an, ln, cn, mn, rfl, hj, hnv, hbel⟩ := hrel
            by_cases hlt : j < l1.length
            · obtain ⟨g, o, x, rfl, hx, hxm, x0, x1, x2⟩ := (HL1.out.up hbel.out).get hlt
              obtain ⟨hxb, hx0⟩ := HMEM.out x hxm
              have hx64 := HV64.out x hxm
              have hok : in64 x.k ∧ in64 x.o := mayAll_bal HH.out.2.2.2 (by rw [← hxb]; exact hx0)
              have HBAL : Hid (∀ W, Below w5.heap.size w5 W → Calls Tryd.prog 16 #[.pointer (some p), .agg #[.int .i64 x.k, .int .i64 x.o]] W fun e w' => e = .returned (.int .i64 x.v) ∧ Below W.heap.size W w') := fun W hW => by
                refine ((HHK.out.up C.out hW).balance C.out x.k x.o hok.1 hok.2).mono ?_
                rintro e w' ⟨rfl, hb, -⟩
                exact ⟨by rw [hxb], hb⟩
              have hst := sumV_take l1 hx
              have HST := Lib.hid hst
              have sm1 : Hid (Small (sumV (l1.take j))) := small_sumV _ (fun y hy => HV64.out y (List.mem_of_mem_take hy)) (by rw [List.length_take]; omega)
              have sm2 : Hid (Small x.v) := small_in64 hx64
              have HX64 := Lib.hid hx64
              have tb : (x.v != x.v) = false := by simp
              have tz : (x.v == 0) = false := by simpa using hx0
              have hX : Hid (Z10 w5 (sumV (l1.take j)) an ln cn mn g (o + j * 3) x wr) := ⟨hnv.out, hbel.out, x0, x1, x2⟩
              clear hx hxm hxb hx0 hx64 hok hst hnv hbel
              go_wp2_with fail
              clear x0 x1 x2
              go_region_held3 (fun w' => w'.cell? ⟨g, o + j * 3, none⟩ = some (.int .i64 x.k) ∧ w'.cell? ⟨g, o + j * 3 + 1, none⟩ = some (.int .i64 x.o) ∧ w'.cell? ⟨g, o + j * 3 + 2, none⟩ = some (.int .i64 x.v))
                (first | exact hX.out.s | exact hX.out.drew.s)
                (first
                  | (go_at_call 16; (with_reducible refine (HBAL.out _ (by first | exact hX.out.below | exact hX.out.drew.below)).mono ?_); rintro e w6 ⟨rfl, hb6⟩; have hX := Lib.hid (by first | exact hX.out.call hb6 | exact hX.out.drew.call hb6); clear hb6))
              all_goals
                obtain ⟨x0, x1, x2⟩ := hX.out.s
                have k0 := hX.out.num.c0
                have k1 := hX.out.num.c1
                go_wp2_with fail
                go_region_law (first
                  | (go_simp; go_at_call 24; refine (of_any x.v HX64.out _).mono ?_; rintro e y1 ⟨u1, rfl, M1, P1⟩
                     have V1 := hX.out.drew.call P1
                     have k0' := V1.num.c0
                     have k1' := V1.num.c1
                     have HV1 := Lib.hid V1
                     have M1' := Lib.hid M1
                     clear V1 M1 P1)
                  | (go_simp; go_at_call 23; refine (addN_any (.agg #[.slice an ln cn, .bool mn]) u1 (sumV (l1.take j)) x.v _ HV1.out.num.num M1'.out sm1.out sm2.out).mono ?_; rintro e y2 ⟨u2, rfl, M2, P2⟩
                     obtain ⟨a4, l4, c4, d4, rfl, R4⟩ := M2
                     obtain ⟨m4, hm4⟩ : ∃ m4, decide (sumV (l1.take j) + x.v < 0) = m4 := ⟨_, rfl⟩
                     have V2 := HV1.out.call P2
                     have k0'' := V2.num.c0
                     have k1'' := V2.num.c1
                     have f0'' := V2.num.f0
                     have f1'' := V2.num.f1
                     have HNV : Hid (NumVar ((y2.setCell ⟨w5.heap.size, 0, none⟩ (.slice a4 l4 c4)).setCell ⟨w5.heap.size, 1, none⟩ (.bool m4)) w5.heap.size (sumV (l1.take (j + 1))) a4 l4 c4 m4) := by
                       rw [HST.out, ← hm4]; exact V2.num.put ⟨a4, l4, c4, d4, rfl, R4⟩
                     have HBV : Hid (Below w5.heap.size w5 ((y2.setCell ⟨w5.heap.size, 0, none⟩ (.slice a4 l4 c4)).setCell ⟨w5.heap.size, 1, none⟩ (.bool m4))) :=
                       (V2.below.setCell (Nat.le_refl _) _).setCell (Nat.le_refl _) _
                     rw [hm4]
                     clear V2 P2 R4 hm4))
                all_goals
                  go_wp2_with fail
                  go_roundw
                  case rel => exact ⟨j + 1, a4, l4, c4, m4, by go_num, by omega, HNV, HBV⟩
                  case measure => simp [RowKit.intOf]; omega
            · have hfull : l1.take j = l1 := List.take_of_length_le (by omega)
              have hnv0 := hnv.out
              rw [hfull, HZ.out] at hnv0
              have hl0 : ln = 0 := by
                obtain ⟨a', len', cap', ds, he, hc, _, _, hcan, hv⟩ := hnv0.num
                simp only [Value.agg.injEq, Array.mk.injEq, List.cons.injEq, Value.slice.injEq, and_true] at he
                have hds := canon_zero hcan (by rw [hv]; rfl)
                have := hc.1
                rw [hds] at this
                have e := he.1.2.1
                simp at this
                omega
              subst hl0
              have k0 := hnv0.c0
              have k1 := hnv0.c1
              clear hnv0 hfull hnv
              go_wp2_with fail
              go_ret
              exact ⟨by simp, HBW.out.trans (hbel.out.mono HSZ.out)⟩
  | false =>
    go_wp2_with fail
    go_ret
    exact ⟨by simp, HB1.out.trans (HP.out.below.mono HB1.out.size)⟩
end Go.Proofs.YtcdkgfjjgebcnaaDoor
