/- The walk of CountTurns: from a to b and back is 0; what lies between goes together; the same day of the next month is 30 days behind by months. -/
import Derived.Test.YtpddnmkoiplmkaaDoorCountC
namespace Go.Proofs.YtpddnmkoiplmkaaDoor
open Go Go.RowKit
set_option linter.unusedVariables false

theorem btw_turn {mo : Bool} {ya ma da yb mb db yc mc dc k1 v1 k2 v2 k3 v3 k4 v4 : Int} (h1 : BtwIs mo ya ma da yb mb db k1 v1) (h2 : BtwIs mo yb mb db yc mc dc k2 v2) (h3 : BtwIs mo ya ma da yc mc dc k3 v3) (h4 : BtwIs mo yb mb db ya ma da k4 v4) :
    ((k1 != 0) = true) ∨ ((k1 != 0) = false ∧ (k2 != 0) = true) ∨ ((k1 != 0) = false ∧ (k2 != 0) = false ∧ (k3 != 0) = false ∧ (k4 != 0) = false ∧ v3 = v1 + v2 ∧ v4 = -v1 ∧ mayD ya ma da ∧ -200000 ≤ v1 ∧ v1 ≤ 200000 ∧ -200000 ≤ v2 ∧ v2 ≤ 200000) := by
  rcases h1 with ⟨rfl, a1, b1, rfl⟩ | ⟨rfl, a1, rfl⟩
  · rcases h2 with ⟨rfl, a2, b2, rfl⟩ | ⟨rfl, a2, rfl⟩
    · rcases h3 with ⟨rfl, a3, b3, rfl⟩ | ⟨rfl, a3, rfl⟩
      · rcases h4 with ⟨rfl, a4, b4, rfl⟩ | ⟨rfl, a4, rfl⟩
        · refine Or.inr (Or.inr ⟨rfl, rfl, rfl, rfl, ?_⟩)
          have n1 := num_bound a1
          have n2 := num_bound b1
          have n3 := num_bound b2
          have g1 := mayD_in a1
          have g2 := mayD_in b1
          have g3 := mayD_in b2
          unfold btw thirtyD
          cases mo
          · simp only [Bool.false_eq_true, if_false]
            exact ⟨by omega, by omega, a1, by omega, by omega, by omega, by omega⟩
          · simp only [if_true]
            refine ⟨by omega, by omega, a1, ?_, ?_, ?_, ?_⟩ <;> (repeat' split) <;> omega
        · exact absurd ⟨b1, a1⟩ a4
      · exact absurd ⟨a1, b2⟩ a3
    · exact Or.inr (Or.inl ⟨rfl, rfl⟩)
  · exact Or.inl rfl

theorem btw_30 {y m d k v : Int} (h : BtwIs true y m d (mvY y m 1) (mvM y m 1) (mvD y m d 1) k v) (hm : mayD y m d) (hd : d ≤ 28) (hn : ¬ noMv y m 1) : k = 0 ∧ v = 30 := by
  have hne : dm (mvY y m 1) (mvM y m 1) ≠ 0 := fun h => hn (Or.inr (Or.inr h))
  have hin : ¬ (mvY y m 1 < 1900 ∨ 2199 < mvY y m 1 ∨ mvM y m 1 < 1 ∨ 12 < mvM y m 1) := fun h => hne (dm_out h)
  have hb := dm_in hin
  have g := mayD_in hm
  have hd2 : mvD y m d 1 = d := by unfold mvD; omega
  rw [hd2] at h
  have hm2 : mayD (mvY y m 1) (mvM y m 1) d := ⟨by omega, by omega⟩
  rcases h with ⟨rfl, _, _, rfl⟩ | ⟨_, h, _⟩
  · refine ⟨rfl, ?_⟩
    unfold btw
    rw [if_pos rfl]
    exact thirty_next y m d
  · exact absurd ⟨hm, hm2⟩ h

set_option maxRecDepth 100000 in
set_option maxHeartbeats 4000000 in
theorem countTurns_walk (CC : Hid CountC) (DC : Hid DateC) (ya ma da yb mb db yc mc dc : Int) (mo : Bool) (w : World) (T : Mon w) :
    Calls Tryd.prog 5 #[.agg #[.int .i64 ya, .int .i64 ma, .int .i64 da], .agg #[.int .i64 yb, .int .i64 mb, .int .i64 db], .agg #[.int .i64 yc, .int .i64 mc, .int .i64 dc], .bool mo] w
      fun e w' => e = .returned (.bool true) ∧ Below w.heap.size w w' := by
  have qn := fun (w : World) (k : Int) => run_neq_errv_nil w k
  have qe := fun (w : World) (k : Int) => run_eql_errv_nil w k
  have gn := guard_neq_errv_nil
  have ge := guard_eql_errv_nil
  have HB := Lib.hid ((((Base.refl T).alloc (Obj.cells #[.int .i64 ya, .int .i64 ma, .int .i64 da] 23)).alloc (Obj.cells #[.int .i64 yb, .int .i64 mb, .int .i64 db] 23)).alloc (Obj.cells #[.int .i64 yc, .int .i64 mc, .int .i64 dc] 23))
  have HXa := Lib.hid (((At3.new w ya ma da).alloc (Obj.cells #[.int .i64 yb, .int .i64 mb, .int .i64 db] 23)).alloc (Obj.cells #[.int .i64 yc, .int .i64 mc, .int .i64 dc] 23))
  have HXb := Lib.hid ((At3.new (w.alloc (Obj.cells #[.int .i64 ya, .int .i64 ma, .int .i64 da] 23)) yb mb db).alloc (Obj.cells #[.int .i64 yc, .int .i64 mc, .int .i64 dc] 23))
  have HXc := Lib.hid (At3.new ((w.alloc (Obj.cells #[.int .i64 ya, .int .i64 ma, .int .i64 da] 23)).alloc (Obj.cells #[.int .i64 yb, .int .i64 mb, .int .i64 db] 23)) yc mc dc)
  rw [World.size_alloc] at HXb HXc
  rw [World.size_alloc] at HXc
  clear T
  go_enter Tryd.func5, Tryd.ntmps5
  go_wp2_with fail
  refine (up05_any CC _ HB.out.mon).mono ?_
  rintro e w1 ⟨rfl, hb1⟩
  have HB1 := Lib.hid (HB.out.call hb1)
  have HA1 := Lib.hid (HXa.out.call hb1)
  have HBB1 := Lib.hid (HXb.out.call hb1)
  have HC1 := Lib.hid (HXc.out.call hb1)
  clear hb1 HB HXa HXb HXc
  obtain ⟨a0, a1, a2⟩ := HA1.out.s
  obtain ⟨b0, b1, b2⟩ := HBB1.out.s
  obtain ⟨c0, c1, c2⟩ := HC1.out.s
  go_wp2_with fail
  refine (CC.out.between ya ma da yb mb db mo _ HB1.out.mon).mono ?_
  rintro e w2 ⟨hb2, k1, v1, h1, rfl⟩
  have HB2 := Lib.hid (HB1.out.call hb2)
  have HA2 := Lib.hid (HA1.out.call hb2)
  have HBB2 := Lib.hid (HBB1.out.call hb2)
  have HC2 := Lib.hid (HC1.out.call hb2)
  have H1 := Lib.hid h1
  clear hb2 HB1 HA1 HBB1 HC1 h1 a0 a1 a2 b0 b1 b2 c0 c1 c2
  obtain ⟨a0, a1, a2⟩ := HA2.out.s
  obtain ⟨b0, b1, b2⟩ := HBB2.out.s
  obtain ⟨c0, c1, c2⟩ := HC2.out.s
  go_wp2_with fail
  refine (CC.out.between yb mb db yc mc dc mo _ HB2.out.mon).mono ?_
  rintro e w3 ⟨hb3, k2, v2, h2, rfl⟩
  have HB3 := Lib.hid (HB2.out.call hb3)
  have HA3 := Lib.hid (HA2.out.call hb3)
  have HBB3 := Lib.hid (HBB2.out.call hb3)
  have HC3 := Lib.hid (HC2.out.call hb3)
  have H2 := Lib.hid h2
  clear hb3 HB2 HA2 HBB2 HC2 h2 a0 a1 a2 b0 b1 b2 c0 c1 c2
  obtain ⟨a0, a1, a2⟩ := HA3.out.s
  obtain ⟨c0, c1, c2⟩ := HC3.out.s
  go_wp2_with fail
  refine (CC.out.between ya ma da yc mc dc mo _ HB3.out.mon).mono ?_
  rintro e w4 ⟨hb4, k3, v3, h3, rfl⟩
  have HB4 := Lib.hid (HB3.out.call hb4)
  have HA4 := Lib.hid (HA3.out.call hb4)
  have HBB4 := Lib.hid (HBB3.out.call hb4)
  have H3 := Lib.hid h3
  clear hb4 HB3 HA3 HBB3 HC3 h3 a0 a1 a2 c0 c1 c2
  obtain ⟨a0, a1, a2⟩ := HA4.out.s
  obtain ⟨b0, b1, b2⟩ := HBB4.out.s
  go_wp2_with fail
  refine (CC.out.between yb mb db ya ma da mo _ HB4.out.mon).mono ?_
  rintro e w5 ⟨hb5, k4, v4, h4, rfl⟩
  have HB5 := Lib.hid (HB4.out.call hb5)
  have HA5 := Lib.hid (HA4.out.call hb5)
  have hl := btw_turn H1.out H2.out H3.out h4
  clear hb5 HB4 HA4 HBB4 h4 H1 H2 H3 a0 a1 a2 b0 b1 b2
  obtain ⟨a0, a1, a2⟩ := HA5.out.s
  rcases hl with h | ⟨h, h'⟩ | ⟨h, h', h'', h3, rfl, rfl, hmay, g1, g2, g3, g4⟩
  · go_wp2_with fail
    go_ret
    exact ⟨by simp, HB5.out.below⟩
  · go_wp2_with fail
    go_ret
    exact ⟨by simp, HB5.out.below⟩
  · have t1 : (v1 + v2 != v1 + v2) = false := by simp
    have t2 : (v1 + -v1 != 0) = false := by simp; omega
    have HM := Lib.hid hmay
    clear hmay
    go_wp2_with fail
    refine (months_k DC ya ma da 1 _ HB5.out.mon (by omega) (by omega)).mono ?_
    rintro e w6 ⟨hb6, k5, x0, x1, x2, h5, rfl⟩
    have HB6 := Lib.hid ((HB5.out.call hb6).alloc (Obj.cells #[.int .i64 x0, .int .i64 x1, .int .i64 x2] 23))
    have HA6 := Lib.hid ((HA5.out.call hb6).alloc (Obj.cells #[.int .i64 x0, .int .i64 x1, .int .i64 x2] 23))
    have HY6 := Lib.hid (At3.new w6 x0 x1 x2)
    clear hb6 HB5 HA5 a0 a1 a2
    obtain ⟨a0, a1, a2⟩ := HA6.out.s
    rcases h5 with ⟨_, h, _⟩ | ⟨rfl, _, _, rfl, rfl, rfl⟩ | ⟨rfl, _, hn, rfl, rfl, rfl⟩
    · exact absurd HM.out h
    · go_wp2_with fail
      go_ret
      exact ⟨rfl, HB6.out.below⟩
    · by_cases hd : da ≤ 28
      · have HN := Lib.hid hn
        clear hn
        go_wp2_with fail
        refine (CC.out.between ya ma da _ _ _ true _ HB6.out.mon).mono ?_
        rintro e w7 ⟨hb7, k7, v7, h7, rfl⟩
        obtain ⟨rfl, rfl⟩ := btw_30 h7 HM.out hd HN.out
        have HB7 := Lib.hid (HB6.out.call hb7)
        clear hb7 HB6 HA6 HY6 h7 a0 a1 a2
        go_wp2_with fail
        go_ret
        exact ⟨rfl, HB7.out.below⟩
      · clear hn
        go_wp2_with fail
        go_ret
        exact ⟨rfl, HB6.out.below⟩
end Go.Proofs.YtpddnmkoiplmkaaDoor
