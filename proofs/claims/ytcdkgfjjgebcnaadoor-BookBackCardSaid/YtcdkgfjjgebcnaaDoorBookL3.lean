/- The walk of BookBack: what was reversed left no trace in the balances; it isn't reversed twice, nor is what reversed it. -/
import Derived.Test.YtcdkgfjjgebcnaaDoorBookK
import Derived.Test.YtcdkgfjjgebcnaaDoorBookSame
import Derived.Test.YtcdkgfjjgebcnaaDoorBookUp
import Derived.Test.YtcdkgfjjgebcnaaDoorBookDeed
import Derived.Test.YtcdkgfjjgebcnaaDoorBookNum2
namespace Go.Proofs.YtcdkgfjjgebcnaaDoor
open Go Go.RowKit
set_option linter.unusedVariables false

theorem postRel_wf {s s' : Bk} {ls : List Ln} {n : Int} {k : Nat} (h : PostRel s ls n k s') (hw : s.wf) : s'.wf := by
  rcases h.2 with ⟨_, _, rfl⟩ | ⟨_, _, rfl⟩
  · exact wf_post hw
  · exact hw
theorem len_bound {s : Bk} {l : List Ln} (h : s.mayN l = 0) : in64 (s.L.length : Int) ∧ in64 ((s.L.length : Int) + 1) := by
  have := (mayN_zero h).1
  unfold in64
  omega

set_option maxRecDepth 100000 in
set_option maxHeartbeats 8000000 in
theorem bookBack_walk {B : (Nat → Prop) → Addr → Bk → World → Prop} (C : Hid (BookC B)) (a b : Option Addr) (c m d : Nat) (vs : List DeedL) (lb : List Ln) (w : World) (T : Hid (Kin w)) (ha : Deeds10 w a vs) (hb : LinesAt w b m lb) (ob : OkL lb)
    (hn : vs.length ≤ c) (hm : m ≤ d) (hcm : c ≤ maxLen) (hdm : d ≤ maxLen) :
    Calls Tryd.prog 5 #[.slice a vs.length c, .slice b m d] w fun e w' => e = .returned (.bool true) ∧ Below w.heap.size w w' := by
  have r1 := run_neq_errv_nil
  have g1 := guard_neq_errv_nil
  have r2 := run_eql_errv_nil
  have g2 := guard_eql_errv_nil
  have r3 := run_eql_errv_code
  have g3 := guard_eql_errv_code
  have HA := Lib.hid ha
  have HB := Lib.hid hb
  have HOB := Lib.hid ob
  have HC := Lib.hid (And.intro hcm hdm)
  have hml : vs.length ≤ 9223372036854775807 := by unfold maxLen at hcm; omega
  have HSH := Lib.hid (fun w1 hb1 => short_any a c vs w1 (ha.up (w := w) (W := w1) hb1) hn hcm)
  obtain ⟨len, hlen⟩ : ∃ len, vs.length = len := ⟨_, rfl⟩
  have HL := Lib.hid hlen
  rw [hlen] at HSH hn hml ⊢
  clear ha hb ob hcm hdm hlen
  obtain ⟨sh, hsh⟩ : ∃ sh, shortL vs = sh := ⟨_, rfl⟩
  have HS := Lib.hid hsh
  rw [hsh] at HSH
  clear hsh
  go_enter Tryd.func5, Tryd.ntmps5
  go_wp2_with fail
  refine (up10_any C _ T.out).mono ?_
  rintro e w1 ⟨rfl, hb1⟩
  have HB1 := Lib.hid hb1
  clear hb1
  go_wp2_with fail
  refine (HSH.out _ HB1.out).mono ?_
  rintro e w2 ⟨rfl, hb2⟩
  replace HB1 := Lib.hid (HB1.out.trans (hb2.mono HB1.out.size))
  clear hb2
  have HA2 := Lib.hid (HA.out.up HB1.out)
  have HB2 := Lib.hid (HB.out.up HB1.out)
  go_wp2_with fail
  have HT2 := Lib.hid (T.out.of HB1.out)
  refine (BHold.new C.out _ HT2.out).mono ?_
  rintro e w3 ⟨p, rfl, hp⟩
  have HP := Lib.hid hp
  clear hp
  by_cases hl : sh = true ∧ m ≤ 100
  · obtain ⟨rfl, hm100⟩ := hl
    have t1 : ¬ (100 : Int) < (m : Int) := by omega
    have m1 : m ≤ 1000 := by omega
    go_wp2_with fail
    go_loopw [8] (fun i wr => ∃ (j : Nat) (s : Bk), i = .int .i64 (j : Int) ∧ j ≤ len ∧ j ≤ 40 ∧ Hid (BHold B p s w2 wr ∧ s.wf)) (fun i _ => 40 - (RowKit.intOf i).toNat)
    case atStart => exact ⟨0, _, rfl, by omega, by omega, HP.out, wf_zero⟩
    case round =>
      obtain ⟨j, s, rfl, hj, hj40, hh⟩ := hrel
      by_cases hlt : j < len ∧ j < 40
      · obtain ⟨hl1, hl2⟩ := hlt
        have u1 : (j : Int) < (len : Int) := by omega
        have u2 : (j : Int) < 40 := by omega
        obtain ⟨g, o, v, rfl, hv, hat, hok⟩ := HA2.out.get (j := j) (by rw [HL.out]; exact hl1)
        obtain ⟨-, -, c2⟩ := hat.up hh.out.1.below
        have hv100 := shortL_at HS.out hl2 hv
        have HOK := Lib.hid hok
        clear hok hv hat
        go_wp2_with fail
        refine (hh.out.1.postOld C.out v.a v.m v.c v.ls HOK.out.hl HOK.out.ho HOK.out.hc HOK.out.hm (by omega)).mono ?_
        rintro e w4 hpost
        obtain ⟨p1, k1, s1, rfl, h1, hr1⟩ := hpost.rel
        have H1 : Hid (BHold B p s1 w2 w4 ∧ s1.wf) := ⟨h1, postRel_wf hr1 hh.out.2⟩
        clear h1 hr1 hpost hh
        go_wp2_with fail
        go_roundw
        case rel => exact ⟨j + 1, s1, by go_num, by omega, by omega, H1⟩
        case measure => simp [RowKit.intOf]; omega
      · have hcase : (¬ (j : Int) < (len : Int)) ∨ ((j : Int) < (len : Int) ∧ ¬ (j : Int) < 40) := by omega
        have HH := Lib.hid (And.intro hh.out.1.bs hh.out.2)
        clear hlt hh
        rcases hcase with u1 | ⟨u1, u2⟩
        all_goals
          go_wp2_with fail
          refine (HH.out.1.trial C.out).mono ?_
          rintro e w5 ⟨v1, l1, rfl, hi1, ht1, h1, hb1⟩
          have H1 := Lib.hid h1
          have HI1 := Lib.hid hi1
          have HT1 := Lib.hid ht1
          clear h1 hi1 ht1 hb1
          have hgiv := Lib.hid (Given.old (K := PlusK NoK wr w5) H1.out.below HB2.out)
          go_wp2_with fail
          refine (H1.out.post C.out b m d lb hgiv.out HOB.out hm HC.out.2 m1).mono ?_
          rintro e w6 ⟨p1, k1, s1, rfl, h2, hr2, hst⟩
          have H2 := Lib.hid h2
          have HI2 := Lib.hid (hst _ _ HI1.out)
          clear h2 hst H1 HI1 hgiv
          by_cases hk : k1 = 0
          · subst hk
            obtain ⟨hk0, ⟨-, rfl, rfl⟩ | ⟨h, -⟩⟩ := hr2
            rotate_left
            · exact absurd rfl h
            have hin := len_bound hk0.symm
            have HIN := Lib.hid hin
            have HM0 : Hid (s.mayN lb = 0) := hk0.symm
            clear hk0 hin
            have z0 : (((0 : Nat) : Int) != 0) = false := rfl
            have z1 : ((0 : Int) != 0) = false := rfl
            go_wp2_with fail
            refine (H2.out.reverse C.out (s.L.length : Int) HIN.out.1).mono ?_
            rintro e w7 ⟨p2, k2, s2, rfl, h3, hr3, hst⟩
            have H3 := Lib.hid h3
            have HI3 := Lib.hid (hst _ _ HI2.out)
            clear h3 hst H2 HI2
            have hkk : k2 = 0 ∨ k2 = 3 ∨ k2 = 8 := by
              have := hr3.1
              rw [revN_behind HH.out.2] at this
              rw [this]
              exact mayN_turn HM0.out
            have HR3 := Lib.hid hr3
            clear hr3
            have HBL3 := Lib.hid (HB1.out.trans (H3.out.below.mono HB1.out.size))
            rcases hkk with rfl | rfl | rfl
            · have hs2 : s2 = (s.post lb).rev (s.L.length : Int) ∧ p2 = ((s.post lb).L.length : Int) := by
                rcases HR3.out.2 with ⟨_, h1, h2⟩ | ⟨h, _⟩
                · exact ⟨h2, h1⟩
                · exact absurd rfl h
              obtain ⟨rfl, rfl⟩ := hs2
              have q1 : (((0 : Nat) : Int) == 3) = false := rfl
              have q2 : (((0 : Nat) : Int) == 8) = false := rfl
              have q3 : (((0 : Nat) : Int) == 0) = true := rfl
              have q1' : ((0 : Int) == 3) = false := rfl
              have q2' : ((0 : Int) == 8) = false := rfl
              have q3' : ((0 : Int) == 0) = true := rfl
              obtain ⟨hd1, hd2⟩ := rev_done (s := s.post lb) (n := s.L.length) (wf_post HH.out.2) (by rw [post_len]; omega)
              have HD1 := Lib.hid hd1
              have HD2 := Lib.hid hd2
              clear hd1 hd2
              go_wp2_with fail
              refine (H3.out.reverse C.out (s.L.length : Int) HIN.out.1).mono ?_
              rintro e w8 ⟨p3, k3, s3, rfl, h4, hr4, hst⟩
              have H4 := Lib.hid h4
              have HI4 := Lib.hid (hst _ _ HI3.out)
              clear h4 hst H3 HI3
              obtain rfl : k3 = 5 := by rw [hr4.1, HD1.out]
              obtain rfl : s3 = (s.post lb).rev (s.L.length : Int) := by
                rcases hr4.2 with ⟨h, _⟩ | ⟨_, _, h⟩
                · cases h
                · exact h
              clear hr4
              have q5 : (((5 : Nat) : Int) == 5) = true := rfl
              have q5' : ((5 : Int) == 5) = true := rfl
              have HPL : Hid (in64 ((s.post lb).L.length : Int)) := by
                rw [post_len]
                have := HIN.out.2
                exact this
              go_wp2_with fail
              refine (H4.out.reverse C.out ((s.post lb).L.length : Int) HPL.out).mono ?_
              rintro e w9 ⟨p4, k4, s4, rfl, h5, hr5, hst⟩
              have H5 := Lib.hid h5
              have HI5 := Lib.hid (hst _ _ HI4.out)
              clear h5 hst H4 HI4
              obtain rfl : k4 = 5 := by rw [hr5.1, HD2.out]
              obtain rfl : s4 = (s.post lb).rev (s.L.length : Int) := by
                rcases hr5.2 with ⟨h, _⟩ | ⟨_, _, h⟩
                · cases h
                · exact h
              clear hr5 HR3
              go_wp2_with fail
              refine (H5.out.trial C.out).mono ?_
              rintro e w10 ⟨v2, l2, rfl, hi2, ht2, h6, hb6⟩
              have HI6 := Lib.hid (HI5.out.up hb6)
              obtain rfl := trial_unique ht2 HT1.out (fun k o => bal_back s lb k o)
              obtain ⟨x1, c1, rfl, ⟨hc1, hm1⟩, hL1, -⟩ := HI6.out
              obtain ⟨x2, c2, rfl, ⟨hc2, -⟩, hL2, -⟩ := hi2
              have HL1 := Lib.hid hL1
              have HL2 := Lib.hid hL2
              have HBL := Lib.hid (HB1.out.trans (h6.below.mono HB1.out.size))
              clear ht2 h6 hb6 H5 HI5 HI6 hL1 hL2 HBL3
              go_wp2_with fail
              refine (same10_any x2 x1 l2.length l2.length c2 c1 l2 l2 _ HL2.out HL1.out hm1).mono ?_
              rintro e w11 ⟨rfl, hb11⟩
              have HBF := Lib.hid (HBL.out.trans (hb11.mono HBL.out.size))
              have hdt : decide (l2 = l2) = true := decide_eq_true rfl
              rw [hdt]
              clear hb11
              go_wp2_with fail
              go_ret
              exact ⟨by simp, HBF.out⟩
            · have q1 : (((3 : Nat) : Int) == 3) = true := rfl
              have q1' : ((3 : Int) == 3) = true := rfl
              go_wp2_with fail
              go_ret
              exact ⟨by simp, HBL3.out⟩
            · have q1 : (((8 : Nat) : Int) == 3) = false := rfl
              have q2 : (((8 : Nat) : Int) == 8) = true := rfl
              have q1' : ((8 : Int) == 3) = false := rfl
              have q2' : ((8 : Int) == 8) = true := rfl
              go_wp2_with fail
              go_ret
              exact ⟨by simp, HBL3.out⟩
          · obtain rfl : s1 = s := by
              rcases hr2.2 with ⟨h, _⟩ | ⟨_, _, h⟩
              · exact absurd h hk
              · exact h
            have z0 : ((k1 : Int) != 0) = true := by simp; omega
            clear hr2 hk
            go_wp2_with fail
            refine (H2.out.trial C.out).mono ?_
            rintro e w7 ⟨v2, l2, rfl, hi2, ht2, h3, hb3⟩
            have HI3 := Lib.hid (HI2.out.up hb3)
            obtain rfl := trial_unique ht2 HT1.out (fun k o => rfl)
            obtain ⟨x1, c1, rfl, ⟨hc1, hm1⟩, hL1, -⟩ := HI3.out
            obtain ⟨x2, c2, rfl, ⟨hc2, -⟩, hL2, -⟩ := hi2
            have HL1 := Lib.hid hL1
            have HL2 := Lib.hid hL2
            have HBL := Lib.hid (HB1.out.trans (h3.below.mono HB1.out.size))
            clear ht2 h3 hb3 H2 HI2 HI3 hL1 hL2
            go_wp2_with fail
            refine (same10_any x2 x1 l2.length l2.length c2 c1 l2 l2 _ HL2.out HL1.out hm1).mono ?_
            rintro e w8 ⟨rfl, hb8⟩
            have HBF := Lib.hid (HBL.out.trans (hb8.mono HBL.out.size))
            have hdt : decide (l2 = l2) = true := decide_eq_true rfl
            rw [hdt]
            clear hb8
            go_wp2_with fail
            go_ret
            exact ⟨by simp, HBF.out⟩
  · have HBL := Lib.hid (HB1.out.trans (HP.out.below.mono HB1.out.size))
    have hcase : sh = false ∨ (sh = true ∧ (100 : Int) < (m : Int)) := by
      cases sh with
      | false => exact Or.inl rfl
      | true => right; refine ⟨rfl, ?_⟩; have : ¬ m ≤ 100 := fun h => hl ⟨rfl, h⟩; omega
    clear hl
    rcases hcase with rfl | ⟨rfl, t1⟩
    all_goals
      go_wp2_with fail
      go_ret
      exact ⟨by simp, HBL.out⟩
end Go.Proofs.YtcdkgfjjgebcnaaDoor
