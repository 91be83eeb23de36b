/- The walk of BookTurns: entries in another order leave the same balances, if all of them can be posted. -/
import Derived.Test.YtcdkgfjjgebcnaaDoorBookTwo
import Derived.Test.YtcdkgfjjgebcnaaDoorBookSame
import Derived.Test.YtcdkgfjjgebcnaaDoorBookUp
namespace Go.Proofs.YtcdkgfjjgebcnaaDoor
open Go Go.RowKit
set_option linter.unusedVariables false

theorem turns_bal (la lb : List Ln) (k o : Int) : ((Bk.zero.post la).post lb).bal k o = ((Bk.zero.post lb).post la).bal k o := by
  rw [bal_post, bal_post, bal_post, bal_post]; omega

set_option maxRecDepth 100000 in
set_option maxHeartbeats 8000000 in
theorem bookTurns_walk {B : (Nat → Prop) → Addr → Bk → World → Prop} (C : Hid (BookC B)) (a b : Option Addr) (n m c d : Nat) (la lb : List Ln) (w : World) (T : Hid (Kin w)) (ha : LinesAt w a n la) (hb : LinesAt w b m lb) (oa : OkL la) (ob : OkL lb)
    (hn : n ≤ c) (hm : m ≤ d) (hcm : c ≤ maxLen) (hdm : d ≤ maxLen) :
    Calls Tryd.prog 7 #[.slice a n c, .slice b m d] w fun e w' => e = .returned (.bool true) ∧ Below w.heap.size w w' := by
  have re := run_neq_ln
  have rg := run_guard_ln
  have r1 := run_neq_errv_nil
  have g1 := guard_neq_errv_nil
  have HA := Lib.hid ha
  have HB := Lib.hid hb
  have HOA := Lib.hid oa
  have HOB := Lib.hid ob
  have HC := Lib.hid (And.intro hcm hdm)
  clear ha hb oa ob hcm hdm
  go_enter Tryd.func7, Tryd.ntmps7
  go_wp2_with fail
  refine (up10_any C _ T.out).mono ?_
  rintro e w1 ⟨rfl, hb1⟩
  have HB1 := Lib.hid hb1
  clear hb1
  by_cases hl : 100 < n ∨ 100 < m
  · by_cases hl1 : 100 < n
    · have t1 : (100 : Int) < (n : Int) := by omega
      clear hl
      go_wp2_with fail
      go_ret
      exact ⟨by simp, HB1.out⟩
    · have t1 : ¬ (100 : Int) < (n : Int) := by omega
      have t2 : (100 : Int) < (m : Int) := by omega
      clear hl
      go_wp2_with fail
      go_ret
      exact ⟨by simp, HB1.out⟩
  · have t1 : ¬ (100 : Int) < (n : Int) := by omega
    have t2 : ¬ (100 : Int) < (m : Int) := by omega
    have n1 : n ≤ 1000 := by omega
    have m1 : m ≤ 1000 := by omega
    have HA1 := Lib.hid (HA.out.up HB1.out)
    have HB2 := Lib.hid (HB.out.up HB1.out)
    clear hl
    go_wp2_with fail
    have HT2 := Lib.hid (T.out.of HB1.out)
    refine (BHold.new C.out _ HT2.out).mono ?_
    rintro e w2 ⟨p, rfl, hp⟩
    have HP := Lib.hid hp
    clear hp
    go_wp2_with fail
    refine (HP.out.more C.out).mono ?_
    rintro e w3 ⟨q, rfl, hq⟩
    have HQ := Lib.hid hq
    clear hq HP
    go_wp2_with fail
    refine (HQ.out.postL C.out a n c la HA1.out HOA.out hn HC.out.1 n1).mono ?_
    rintro e w4 ⟨p1, k1, s1, rfl, h1, r1'⟩
    have H1 := Lib.hid h1
    have R1 := Lib.hid r1'
    clear h1 r1' HQ
    go_wp2_with fail
    refine (H1.out.postL C.out b m d lb HB2.out HOB.out hm HC.out.2 m1).mono ?_
    rintro e w5 ⟨p2, k2, s2, rfl, h2, r2'⟩
    have H2 := Lib.hid h2
    have R2 := Lib.hid r2'
    clear h2 r2' H1
    go_wp2_with fail
    refine (H2.out.postR C.out b m d lb HB2.out HOB.out hm HC.out.2 m1).mono ?_
    rintro e w6 ⟨p3, k3, s3, rfl, h3, r3'⟩
    have H3 := Lib.hid h3
    have R3 := Lib.hid r3'
    clear h3 r3' H2
    go_wp2_with fail
    refine (H3.out.postR C.out a n c la HA1.out HOA.out hn HC.out.1 n1).mono ?_
    rintro e w7 ⟨p4, k4, s4, rfl, h4, r4'⟩
    have H4 := Lib.hid h4
    have R4 := Lib.hid r4'
    clear h4 r4' H3
    by_cases hk : k1 = 0 ∧ k2 = 0 ∧ k3 = 0 ∧ k4 = 0
    · obtain ⟨rfl, rfl, rfl, rfl⟩ := hk
      have e1 : s1 = Bk.zero.post la := by rcases R1.out.2 with ⟨_, _, h⟩ | ⟨h, _⟩; exact h; exact absurd rfl h
      have e2 : s2 = s1.post lb := by rcases R2.out.2 with ⟨_, _, h⟩ | ⟨h, _⟩; exact h; exact absurd rfl h
      have e3 : s3 = Bk.zero.post lb := by rcases R3.out.2 with ⟨_, _, h⟩ | ⟨h, _⟩; exact h; exact absurd rfl h
      have e4 : s4 = s3.post la := by rcases R4.out.2 with ⟨_, _, h⟩ | ⟨h, _⟩; exact h; exact absurd rfl h
      have HBAL : Hid (∀ k o, s2.bal k o = s4.bal k o) := by
        rw [e2, e4, e1, e3]
        exact turns_bal la lb
      clear e1 e2 e3 e4 R1 R2 R3 R4
      have z0 : (((0 : Nat) : Int) != 0) = false := rfl
      have z1 : ((0 : Int) != 0) = false := rfl
      go_wp2_with fail
      refine (H4.out.trialL C.out).mono ?_
      rintro e w8 ⟨v1, l1, rfl, ho1, ht1, h5, -⟩
      have H5 := Lib.hid h5
      clear h5 H4
      have HO1 := Lib.hid ho1
      clear ho1
      obtain ⟨x1, c1, rfl, ⟨hc1, hm1⟩, -, -⟩ := HO1.out
      go_wp2_with fail
      refine (H5.out.trialR C.out).mono ?_
      rintro e w9 ⟨v2, l2, rfl, ho2, ht2, h6, hb6⟩
      have H6 := Lib.hid h6
      have HO3 := Lib.hid (HO1.out.up hb6)
      clear h6 H5 hb6 HO1
      obtain rfl := trial_unique ht1 ht2 HBAL.out
      have HO2 := Lib.hid ho2
      clear ho2 ht1 ht2 HBAL
      obtain ⟨x2, c2, rfl, ⟨hc2, -⟩, hL2, -⟩ := HO2.out
      have HL1 : Hid (LinesAt w9 x1 l1.length l1) := by
        obtain ⟨a', c', e', h1, h2, -⟩ := HO3.out
        cases e'
        exact h2
      have HL2 := Lib.hid hL2
      have tl : ((l1.length : Int) != (l1.length : Int)) = false := by simp
      have HBL := Lib.hid (HB1.out.trans (H6.out.below.mono HB1.out.size))
      clear HO2 HO3 hL2 H6
      go_wp2_with fail
      go_loopw [18] (fun i wr => ∃ j : Nat, i = .int .i64 (j : Int) ∧ j ≤ l1.length ∧ Hid (Below w9.heap.size w9 wr)) (fun i _ => l1.length - (RowKit.intOf i).toNat)
      case atStart => exact ⟨0, rfl, by omega, Below.refl _ _⟩
      case round =>
        obtain ⟨j, rfl, hj, hbel⟩ := hrel
        by_cases hlt : j < l1.length
        · obtain ⟨g, o, x, rfl, hx, -, x0, x1, x2⟩ := (HL1.out.up hbel.out).get hlt
          obtain ⟨g', o', y, rfl, hy, -, y0, y1, y2⟩ := (HL2.out.up hbel.out).get hlt
          obtain rfl : y = x := by rw [hx] at hy; exact (Option.some.inj hy).symm
          have hd : decide (y = y) = true := decide_eq_true rfl
          clear hx hy
          go_wp2_with fail
          go_quiet (fail)
          go_wp2_with fail
          go_roundw
          case rel => exact ⟨j + 1, by go_num, by omega, below_drewN hbel.out nq⟩
          case measure => simp [RowKit.intOf]; omega
        · go_wp2_with fail
          go_ret
          exact ⟨by simp, HBL.out.trans (hbel.out.mono HBL.out.size)⟩
    · have HBL := Lib.hid (HB1.out.trans (H4.out.below.mono HB1.out.size))
      have hcase : (((k1 : Int) != 0) = true) ∨ (((k1 : Int) != 0) = false ∧ ((k2 : Int) != 0) = true) ∨ (((k1 : Int) != 0) = false ∧ ((k2 : Int) != 0) = false ∧ ((k3 : Int) != 0) = true) ∨ (((k1 : Int) != 0) = false ∧ ((k2 : Int) != 0) = false ∧ ((k3 : Int) != 0) = false ∧ ((k4 : Int) != 0) = true) := by
        simp only [bne_iff_ne, ne_eq, bne_eq_false_iff_eq]
        omega
      clear hk H4 R1 R2 R3 R4
      rcases hcase with u1 | ⟨u1, u2⟩ | ⟨u1, u2, u3⟩ | ⟨u1, u2, u3, u4⟩
      all_goals
        go_wp2_with fail
        go_ret
        exact ⟨by simp, HBL.out⟩
end Go.Proofs.YtcdkgfjjgebcnaaDoor
