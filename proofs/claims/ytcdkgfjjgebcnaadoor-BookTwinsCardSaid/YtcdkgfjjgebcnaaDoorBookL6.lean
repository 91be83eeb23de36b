/- The walk of BookTwins: books and their twin go their own ways. -/
import Derived.Test.YtcdkgfjjgebcnaaDoorBookTwo
import Derived.Test.YtcdkgfjjgebcnaaDoorBookSame
import Derived.Test.YtcdkgfjjgebcnaaDoorBookUp
namespace Go.Proofs.YtcdkgfjjgebcnaaDoor
open Go Go.RowKit
set_option linter.unusedVariables false

set_option maxRecDepth 100000 in
set_option maxHeartbeats 8000000 in
theorem bookTwins_walk {B : (Nat → Prop) → Addr → Bk → World → Prop} (C : Hid (BookC B)) (a b : Option Addr) (n m c d : Nat) (la lb : List Ln) (w : World) (T : Hid (Kin w)) (ha : LinesAt w a n la) (hb : LinesAt w b m lb) (oa : OkL la) (ob : OkL lb)
    (hn : n ≤ c) (hm : m ≤ d) (hcm : c ≤ maxLen) (hdm : d ≤ maxLen) :
    Calls Tryd.prog 8 #[.slice a n c, .slice b m d] w fun e w' => e = .returned (.bool true) ∧ Below w.heap.size w w' := by
  have re := run_neq_ln
  have rg := run_guard_ln
  have r1 := run_neq_errv_nil
  have g1 := guard_neq_errv_nil
  have HA := Lib.hid ha
  have HB := Lib.hid hb
  have HOA := Lib.hid oa
  have HOB := Lib.hid ob
  have HC := Lib.hid (And.intro hcm hdm)
  clear ha hb oa ob hcm hdm
  go_enter Tryd.func8, Tryd.ntmps8
  go_wp2_with fail
  refine (up10_any C _ T.out).mono ?_
  rintro e w1 ⟨rfl, hb1⟩
  have HB1 := Lib.hid hb1
  clear hb1
  by_cases hl : 100 < n ∨ 100 < m
  · by_cases hl1 : 100 < n
    · have t1 : (100 : Int) < (n : Int) := by omega
      clear hl
      go_wp2_with fail
      go_ret
      exact ⟨by simp, HB1.out⟩
    · have t1 : ¬ (100 : Int) < (n : Int) := by omega
      have t2 : (100 : Int) < (m : Int) := by omega
      clear hl
      go_wp2_with fail
      go_ret
      exact ⟨by simp, HB1.out⟩
  · have t1 : ¬ (100 : Int) < (n : Int) := by omega
    have t2 : ¬ (100 : Int) < (m : Int) := by omega
    have n1 : n ≤ 1000 := by omega
    have m1 : m ≤ 1000 := by omega
    have HA1 := Lib.hid (HA.out.up HB1.out)
    have HB2 := Lib.hid (HB.out.up HB1.out)
    clear hl
    go_wp2_with fail
    have HT2 := Lib.hid (T.out.of HB1.out)
    refine (BHold.new C.out _ HT2.out).mono ?_
    rintro e w2 ⟨p, rfl, hp⟩
    have HP := Lib.hid hp
    clear hp
    go_wp2_with fail
    refine (HP.out.postOld C.out a n c la HA1.out HOA.out hn HC.out.1 n1).mono ?_
    rintro e w3 hpost
    obtain ⟨p1, k1, s1, rfl, h1, -⟩ := hpost.rel
    have H1 := Lib.hid h1
    clear h1 hpost HP
    go_wp2_with fail
    refine (H1.out.clone C.out).mono ?_
    rintro e w4 ⟨q, rfl, h2, -⟩
    have H2 := Lib.hid h2
    clear h2 H1
    go_wp2_with fail
    refine (H2.out.lenL C.out).mono ?_
    rintro e w5 ⟨rfl, h3, -⟩
    have H3 := Lib.hid h3
    clear h3 H2
    go_wp2_with fail
    refine (H3.out.trialL C.out).mono ?_
    rintro e w6 ⟨v1, l1, rfl, ho1, ht1, h4, hb4⟩
    have HO1 := Lib.hid ho1
    have HB4 := Lib.hid hb4
    clear h4 ho1 hb4
    obtain ⟨x1, c1, rfl, ⟨hc1, hm1⟩, -, -⟩ := HO1.out
    go_wp2_with fail
    refine (H3.out.postRK C.out HB4.out b m d lb HB2.out HOB.out hm HC.out.2 m1).mono ?_
    rintro e w7 ⟨p2, k2, s2, rfl, h5, -, hst⟩
    have H5 := Lib.hid h5
    have HO2 := Lib.hid (hst _ _ HO1.out)
    clear h5 hst H3 HO1
    go_wp2_with fail
    refine (H5.out.trialL C.out).mono ?_
    rintro e w8 ⟨v2, l2, rfl, ho2, ht2, h6, hb6⟩
    have H6 := Lib.hid h6
    have HO3 := Lib.hid (HO2.out.up hb6)
    clear h6 H5 hb6 HO2
    obtain rfl := trial_unique ht1 ht2 (fun _ _ => rfl)
    have HO2 := Lib.hid ho2
    clear ho2 ht1 ht2
    obtain ⟨x2, c2, rfl, ⟨hc2, -⟩, hL2, -⟩ := HO2.out
    have HL1 : Hid (LinesAt w8 x1 l1.length l1) := by
      obtain ⟨a', c', e', h1, h2, -⟩ := HO3.out
      cases e'
      exact h2
    have HL2 := Lib.hid hL2
    clear HO2 HO3 hL2
    go_wp2_with fail
    refine (H6.out.lenL C.out).mono ?_
    rintro e w9 ⟨rfl, h7, hb7⟩
    have H7 := Lib.hid h7
    replace HL1 := Lib.hid (HL1.out.up hb7)
    replace HL2 := Lib.hid (HL2.out.up hb7)
    clear h7 hb7 H6
    have tl : ((l1.length : Int) != (l1.length : Int)) = false := by simp
    have tn : ((s1.L.length : Int) != (s1.L.length : Int)) = false := by simp
    have HBL := Lib.hid (HB1.out.trans (H7.out.below.mono HB1.out.size))
    clear H7
    go_wp2_with fail
    go_loopw [11] (fun i wr => ∃ j : Nat, i = .int .i64 (j : Int) ∧ j ≤ l1.length ∧ Hid (Below w9.heap.size w9 wr)) (fun i _ => l1.length - (RowKit.intOf i).toNat)
    case atStart => exact ⟨0, rfl, by omega, Below.refl _ _⟩
    case round =>
      obtain ⟨j, rfl, hj, hbel⟩ := hrel
      by_cases hlt : j < l1.length
      · obtain ⟨g, o, x, rfl, hx, -, x0, x1, x2⟩ := (HL1.out.up hbel.out).get hlt
        obtain ⟨g', o', y, rfl, hy, -, y0, y1, y2⟩ := (HL2.out.up hbel.out).get hlt
        obtain rfl : y = x := by rw [hx] at hy; exact (Option.some.inj hy).symm
        have hd : decide (y = y) = true := decide_eq_true rfl
        clear hx hy
        go_wp2_with fail
        go_quiet (fail)
        go_wp2_with fail
        go_roundw
        case rel => exact ⟨j + 1, by go_num, by omega, below_drewN hbel.out nq⟩
        case measure => simp [RowKit.intOf]; omega
      · go_wp2_with fail
        go_ret
        exact ⟨by simp, HBL.out.trans (hbel.out.mono HBL.out.size)⟩
end Go.Proofs.YtcdkgfjjgebcnaaDoor
