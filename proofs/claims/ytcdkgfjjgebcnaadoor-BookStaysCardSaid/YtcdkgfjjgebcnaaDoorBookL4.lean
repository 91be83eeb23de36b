/- The walk of BookStays: lines that are handed in stay as they are, and aren't kept; what was told stays, whatever becomes of it; a clone goes its own ways. -/
import Derived.Test.YtcdkgfjjgebcnaaDoorBookK
import Derived.Test.YtcdkgfjjgebcnaaDoorBookSame
import Derived.Test.YtcdkgfjjgebcnaaDoorBookUp
import Derived.Test.YtcdkgfjjgebcnaaDoorBookNum2
import Derived.Test.YtcdkgfjjgebcnaaDoorLines
namespace Go.Proofs.YtcdkgfjjgebcnaaDoor
open Go Go.RowKit
set_option linter.unusedVariables false

theorem zero_rev {l : List Ln} (h : Bk.zero.mayN l = 0) : (Bk.zero.post l).revN 0 = 0 ∨ (Bk.zero.post l).revN 0 = 3 := by
  have h1 := revN_behind (l := l) wf_zero
  have e : (Bk.zero.L.length : Int) = 0 := rfl
  rw [e] at h1
  rw [h1]
  rcases mayN_turn (t := Bk.zero.post l) h with h2 | h2 | h2
  · exact Or.inl h2
  · exact Or.inr h2
  · exfalso
    unfold Bk.mayN at h2
    have e2 : (Bk.zero.post l).L.length = 1 := rfl
    rw [e2, if_neg (by omega), turn_len, turn_bad, (mayN_zero h).2.2.2.1, sumV_turn, (mayN_zero h).2.2.2.2.1] at h2
    rw [if_neg (by have := mayN_zero h; omega), if_neg (by simp), if_neg (by simp)] at h2
    split at h2 <;> cases h2

set_option maxRecDepth 100000 in
set_option maxHeartbeats 8000000 in
theorem bookStays_walk {B : (Nat → Prop) → Addr → Bk → World → Prop} (C : Hid (BookC B)) (a b : Option Addr) (n m c d : Nat) (la lb : List Ln) (w : World) (T : Hid (Kin w)) (ha : LinesAt w a n la) (hb : LinesAt w b m lb) (oa : OkL la) (ob : OkL lb)
    (hn : n ≤ c) (hm : m ≤ d) (hcm : c ≤ maxLen) (hdm : d ≤ maxLen) (hna : a = none → c = 0) :
    Calls Tryd.prog 6 #[.slice a n c, .slice b m d] w fun e w' => e = .returned (.bool true) ∧ Below w.heap.size w w' := by
  have r1 := run_neq_errv_nil
  have g1 := guard_neq_errv_nil
  have r2 := run_eql_errv_nil
  have g2 := guard_eql_errv_nil
  have r3 := run_eql_errv_code
  have g3 := guard_eql_errv_code
  have HA := Lib.hid ha
  have HB := Lib.hid hb
  have HOA := Lib.hid oa
  have HOB := Lib.hid ob
  have HC := Lib.hid (And.intro hcm hdm)
  have HNA := Lib.hid hna
  clear ha hb oa ob hcm hdm hna
  go_enter Tryd.func6, Tryd.ntmps6
  go_wp2_with fail
  refine (up10_any C _ T.out).mono ?_
  rintro e w1 ⟨rfl, hb1⟩
  have HB1 := Lib.hid hb1
  clear hb1
  have HA1 := Lib.hid (HA.out.up HB1.out)
  have HB2 := Lib.hid (HB.out.up HB1.out)
  go_wp2_with fail
  have HT2 := Lib.hid (T.out.of HB1.out)
  refine (BHold.new C.out _ HT2.out).mono ?_
  rintro e w3 ⟨p, rfl, hp⟩
  have HP := Lib.hid hp
  clear hp
  by_cases hl : n ≤ 100 ∧ m ≤ 100
  · obtain ⟨hl1, hl2⟩ := hl
    have t1 : ¬ (100 : Int) < (n : Int) := by omega
    have t2 : ¬ (100 : Int) < (m : Int) := by omega
    have n1 : n ≤ 1000 := by omega
    have m1 : m ≤ 1000 := by omega
    have HAe : Hid (LinesAt (w3.alloc (Obj.cells #[] 56)) a n la) := (HP.out.lines HA1.out).up ((Below.refl _ _).alloc (Nat.le_refl _) _)
    have HOE : Hid (OwnsL w3.heap.size (.slice (some ⟨w3.heap.size, 0, none⟩) 0 0) [] (w3.alloc (Obj.cells #[] 56))) := World.ownsRow_lit w3 #[] 0 (Nat.le_refl _) (by decide) rfl
    go_wp2_with (at_builtin; refine wpList_append_ln rfl (.tmp 41) (.tmp 42) rfl w3.heap.size _ [] rfl HOE.out a n c la rfl HNA.out HAe.out (by simp; omega) (by simp) ?_; intro v4 w4 o4 q4 r4 l4)
    rw [List.nil_append] at o4
    have hb34 : Below w3.heap.size w3 w4 := ((Below.refl _ w3).alloc (Nat.le_refl _) _).grown q4 (by simp) (fun k hk => HOE.out.blk k hk)
    obtain ⟨a4, c4, rfl, hl4, hc4, hm4, -, -, -⟩ := o4.open
    have hin4 : InKL (PlusK NoK w3 w4) (.slice a4 la.length c4) la w4 := o4.told.plus
    have hbs4 := HP.out.bs.more C.out hb34
    have hgiv : Given (PlusK NoK w3 w4) w1 w4 a4 la.length la := ⟨hl4, fun x hx => by
      obtain ⟨a', c', e', -, -, h5⟩ := hin4
      cases e'
      exact (h5 x hx).elim Or.inl fun h => Or.inr (Or.inr h.1)⟩
    have H4 := Lib.hid hbs4
    have HI4 := Lib.hid hin4
    have HG4 := Lib.hid hgiv
    obtain rfl : n = la.length := HA.out.1.symm
    clear o4 q4 r4 l4 hl4 hin4 hbs4 hgiv hb34 HAe HOE HP
    go_wp2_with fail
    refine (H4.out.post C.out a4 la.length c4 la HG4.out HOA.out hc4 hm4 n1).mono ?_
    rintro e w5 ⟨p1, k1, s1, rfl, h5, hr5, hst⟩
    have H5 := Lib.hid h5
    have HI5 := Lib.hid (hst _ _ HI4.out)
    have HR5 := Lib.hid hr5
    clear h5 hst hr5 H4 HI4 HG4
    obtain ⟨a', c', e', -, hL5, -⟩ := HI5.out
    simp only [Value.slice.injEq, true_and] at e'
    obtain ⟨rfl, rfl⟩ := e'
    have HL5 := Lib.hid hL5
    have HLA5 := Lib.hid (H5.out.lines HA1.out)
    clear hL5
    go_wp2_with fail
    refine (same10_any a4 a la.length la.length c4 c la la _ HL5.out HLA5.out (by omega)).mono ?_
    rintro e w6 ⟨rfl, hb6⟩
    have hdt : decide (la = la) = true := decide_eq_true rfl
    rw [hdt]
    have H6 := Lib.hid (H5.out.up C.out hb6)
    have HI6 := Lib.hid (HI5.out.up hb6)
    clear hb6 hdt H5 HI5 HL5 HLA5
    go_wp2_with fail
    go_loopw [11] (fun i wr => ∃ j : Nat, i = .int .i64 (j : Int) ∧ j ≤ la.length ∧ Hid (BS B p s1 (PlusK NoK w3 w4) w1 wr) ∧ Hid (0 < la.length → ∃ b off, a4 = some ⟨b, off, none⟩ ∧ Room10 b off la.length wr ∧ PlusK NoK w3 w4 b)) (fun i _ => la.length - (RowKit.intOf i).toNat)
    case atStart => exact ⟨0, rfl, by omega, H6, fun h => by
      obtain ⟨g, o, h1, h2, h3, -⟩ := HI6.out.room h
      exact ⟨g, o, h1, h2, h3⟩⟩
    case round =>
      obtain ⟨j, rfl, hj, hbs, hroom⟩ := hrel
      by_cases hlt : j < la.length
      · have u1 : (j : Int) < (la.length : Int) := by omega
        obtain ⟨g, o, rfl, hrm, hK⟩ := hroom.out (by omega)
        obtain ⟨⟨u, x2⟩, f2⟩ := hrm (j * 3 + 2) (by omega)
        rw [← Nat.add_assoc] at x2 f2
        have HRM := Lib.hid hrm
        have HK := Lib.hid hK
        clear hrm hK hroom
        go_wp2_with fail
        go_roundw
        case rel => exact ⟨j + 1, by go_num, by omega, hbs.out.set C.out HT2.out (x := ⟨g, o + j * 3 + 2, none⟩) HK.out _, fun _ => ⟨g, o, rfl, HRM.out.set _ _, HK.out⟩⟩
        case measure => simp [RowKit.intOf]; omega
      · have u1 : ¬ (j : Int) < (la.length : Int) := by omega
        clear hlt hroom H6 HI6
        by_cases hk : k1 = 0
        · subst hk
          have hs1 : s1 = Bk.zero.post la ∧ p1 = 0 ∧ Bk.zero.mayN la = 0 := by
            obtain ⟨h0, ⟨_, h1, h2⟩ | ⟨h, _⟩⟩ := HR5.out
            · exact ⟨h2, h1, h0.symm⟩
            · exact absurd rfl h
          obtain ⟨rfl, rfl, hm0⟩ := hs1
          have HM0 := Lib.hid hm0
          have z0 : (((0 : Nat) : Int) != 0) = false := rfl
          have z1 : ((0 : Int) != 0) = false := rfl
          have z2 : (((0 : Nat) : Int) == 0) = true := rfl
          have z3 : ((0 : Int) == 0) = true := rfl
          have h064 : in64 0 := by unfold in64; omega
          have hlen1 : (0 : Int) < ((Bk.zero.post la).L.length : Int) := by rw [post_len]; omega
          have HLEN := Lib.hid hlen1
          have H064 := Lib.hid h064
          clear HR5 hm0 hlen1 h064
          go_wp2_with fail
          refine (hbs.out.entry C.out 0 H064.out (Int.le_refl _) HLEN.out).mono ?_
          rintro e w7 ⟨v7, rfl, hi7, h7, -⟩
          rw [show (Bk.zero.post la).L.getD (0 : Int).toNat [] = la from post_last Bk.zero la] at hi7
          obtain ⟨a7, c7, rfl, ⟨hc7, -⟩, -, -⟩ := id hi7
          have H7 := Lib.hid h7
          have HI7 := Lib.hid hi7
          clear h7 hi7 hbs
          go_wp2_with fail
          go_loopw [14] (fun i wr' => ∃ j : Nat, i = .int .i64 (j : Int) ∧ j ≤ la.length ∧ Hid (BS B p (Bk.zero.post la) (PlusK (PlusK NoK w3 w4) wr w7) w1 wr') ∧ Hid (0 < la.length → ∃ b off, a7 = some ⟨b, off, none⟩ ∧ Room10 b off la.length wr' ∧ PlusK (PlusK NoK w3 w4) wr w7 b)) (fun i _ => la.length - (RowKit.intOf i).toNat)
          case atStart => exact ⟨0, rfl, by omega, H7, fun h => by
            obtain ⟨g, o, h1, h2, h3, -⟩ := HI7.out.room h
            exact ⟨g, o, h1, h2, h3⟩⟩
          case round =>
            rename_i wr'
            obtain ⟨j, rfl, hj, hbs, hroom⟩ := hrel
            by_cases hlt : j < la.length
            · have u1 : (j : Int) < (la.length : Int) := by omega
              obtain ⟨g, o, rfl, hrm, hK⟩ := hroom.out (by omega)
              obtain ⟨⟨u, x2⟩, f2⟩ := hrm (j * 3 + 2) (by omega)
              rw [← Nat.add_assoc] at x2 f2
              have HRM := Lib.hid hrm
              have HK := Lib.hid hK
              clear hrm hK hroom
              go_wp2_with fail
              go_roundw
              case rel => exact ⟨j + 1, by go_num, by omega, hbs.out.set C.out HT2.out (x := ⟨g, o + j * 3 + 2, none⟩) HK.out _, fun _ => ⟨g, o, rfl, HRM.out.set _ _, HK.out⟩⟩
              case measure => simp [RowKit.intOf]; omega
            · have u1 : ¬ (j : Int) < (la.length : Int) := by omega
              clear hlt hroom H7 HI7
              go_wp2_with fail
              refine (hbs.out.clone C.out).mono ?_
              rintro e w8 ⟨q, rfl, h8, -⟩
              have H8 := Lib.hid h8
              clear h8 hbs
              go_wp2_with fail
              refine (H8.out.trialL C.out).mono ?_
              rintro e w9 ⟨v9, l9, rfl, hi9, ht9, h9, -⟩
              have H9 := Lib.hid h9
              have HI9 := Lib.hid hi9
              have HT9 := Lib.hid ht9
              clear h9 hi9 ht9 H8
              go_wp2_with fail
              refine (H9.out.postR C.out b m d lb (Given.old H9.out.below HB2.out) HOB.out hm HC.out.2 m1).mono ?_
              rintro e w10 ⟨p2, k2, s2, rfl, h10, -, hst⟩
              have H10 := Lib.hid h10
              have HI10 := Lib.hid (hst _ _ HI9.out)
              clear h10 hst H9 HI9
              go_wp2_with fail
              refine (H10.out.reverseR C.out 0 H064.out).mono ?_
              rintro e w11 ⟨p3, k3, s3, rfl, h11, -, hst⟩
              have H11 := Lib.hid h11
              have HI11 := Lib.hid (hst _ _ HI10.out)
              clear h11 hst H10 HI10
              go_wp2_with fail
              refine (H11.out.entryL C.out 0 H064.out (Int.le_refl _) HLEN.out).mono ?_
              rintro e w12 ⟨v12, rfl, hi12, h12, hb12⟩
              rw [show (Bk.zero.post la).L.getD (0 : Int).toNat [] = la from post_last Bk.zero la] at hi12
              have H12 := Lib.hid h12
              have HI12 := Lib.hid hi12
              have HT12 := Lib.hid (HI11.out.plus hb12)
              clear h12 hi12 hb12 H11 HI11
              go_wp2_with fail
              refine (H12.out.trialL C.out).mono ?_
              rintro e w13 ⟨v13, l13, rfl, hi13, ht13, h13, hb13⟩
              obtain rfl := trial_unique ht13 HT9.out (fun _ _ => rfl)
              have H13 := Lib.hid h13
              have HU13 := Lib.hid hi13
              have HY13 := Lib.hid (HI12.out.plus hb13)
              have HT13 := Lib.hid (HT12.out.plus hb13)
              clear h13 hi13 ht13 hb13 H12 HI12 HT12 HT9
              go_wp2_with fail
              refine (H13.out.reverseL C.out 0 H064.out).mono ?_
              rintro e w14 ⟨p4, k4, s4, rfl, h14, hr14, hst⟩
              have hk4 : k4 = 0 ∨ k4 = 3 := by rw [hr14.1]; exact zero_rev HM0.out
              obtain ⟨a1, c1, rfl, ⟨hc1, hm1⟩, hLu, -⟩ := hst _ _ HU13.out
              obtain ⟨a2, c2, rfl, ⟨hc2, hm2⟩, hLt, -⟩ := hst _ _ HT13.out
              obtain ⟨a3, c3, rfl, ⟨hc3, hm3⟩, hLy, -⟩ := hst _ _ HY13.out
              have HLU := Lib.hid hLu
              have HLT := Lib.hid hLt
              have HLY := Lib.hid hLy
              have HLL := Lib.hid (h14.left.lines HA1.out)
              have HBL := Lib.hid (HB1.out.trans (h14.below.mono HB1.out.size))
              clear hr14 hst H13 HU13 HT13 HY13 h14 hLu hLt hLy
              have q3 : (((3 : Nat) : Int) == 3) = true := rfl
              have q3' : ((3 : Int) == 3) = true := rfl
              have q30 : (((3 : Nat) : Int) == 0) = false := rfl
              have q30' : ((3 : Int) == 0) = false := rfl
              rcases hk4 with rfl | rfl
              all_goals
                go_wp2_with fail
                refine (same10_any a3 a la.length la.length c3 c la la _ HLY.out HLL.out hm3).mono ?_
                rintro e w15 ⟨rfl, hb15⟩
                rw [decide_eq_true (rfl : la = la)]
                replace HLU := Lib.hid (HLU.out.up hb15)
                replace HLT := Lib.hid (HLT.out.up hb15)
                replace HBL := Lib.hid (HBL.out.trans (hb15.mono HBL.out.size))
                clear hb15
                go_wp2_with fail
                refine (same10_any a1 a2 l13.length l13.length c1 c2 l13 l13 _ HLU.out HLT.out hm1).mono ?_
                rintro e w16 ⟨rfl, hb16⟩
                rw [decide_eq_true (rfl : l13 = l13)]
                replace HBL := Lib.hid (HBL.out.trans (hb16.mono HBL.out.size))
                clear hb16
                go_wp2_with fail
                go_ret
                exact ⟨by simp, HBL.out⟩
        · obtain rfl : s1 = Bk.zero := by
            rcases HR5.out.2 with ⟨h, _⟩ | ⟨_, _, h⟩
            · exact absurd h hk
            · exact h
          have z0 : ((k1 : Int) != 0) = true := by simp; omega
          clear hk HR5
          go_wp2_with fail
          refine (hbs.out.hold.len C.out).mono ?_
          rintro e w7 ⟨rfl, h7, -⟩
          have HBL := Lib.hid (HB1.out.trans (h7.below.mono HB1.out.size))
          rw [show ((Bk.zero.L.length : Nat) : Int) = 0 from rfl]
          clear h7
          go_wp2_with fail
          go_ret
          exact ⟨by simp, HBL.out⟩
  · have HBL := Lib.hid (HB1.out.trans (HP.out.below.mono HB1.out.size))
    have hcase : (100 : Int) < (n : Int) ∨ (¬ (100 : Int) < (n : Int) ∧ (100 : Int) < (m : Int)) := by omega
    clear hl
    rcases hcase with t1 | ⟨t1, t2⟩
    all_goals
      go_wp2_with fail
      go_ret
      exact ⟨by simp, HBL.out⟩
end Go.Proofs.YtcdkgfjjgebcnaaDoor
