/- The walk of CountBetween: how many days lie between any two dates, by months and by days, or that one is none. -/
import Derived.Test.YtpddnmkoiplmkaaDoorCountC
import Derived.Deep.RegionHeld3
namespace Go.Proofs.YtpddnmkoiplmkaaDoor
open Go Go.RowKit
set_option linter.unusedVariables false

/-- two dates at their blocks, and all that was there -/
structure TwoAt (w0 : World) (A B : Nat) (ya ma da yb mb db : Int) (w : World) : Prop where
  a : At3 A ya ma da w
  b : At3 B yb mb db w
  base : Base w0 w
theorem TwoAt.call {w0 w1 w2 : World} {A B : Nat} {ya ma da yb mb db : Int} (h : TwoAt w0 A B ya ma da yb mb db w1) (hb : Below w1.heap.size w1 w2) : TwoAt w0 A B ya ma da yb mb db w2 := ⟨h.a.call hb, h.b.call hb, h.base.call hb⟩
theorem TwoAt.drewN {w0 w1 : World} {A B : Nat} {ya ma da yb mb db : Int} (h : TwoAt w0 A B ya ma da yb mb db w1) (n : Nat) : TwoAt w0 A B ya ma da yb mb db (w1.drewN n) := h.call (below_drewN (Below.refl _ _) n)
theorem TwoAt.s {w0 w1 : World} {A B : Nat} {ya ma da yb mb db : Int} (h : TwoAt w0 A B ya ma da yb mb db w1) :
    w1.cell? ⟨A, 0, none⟩ = some (.int .i64 ya) ∧ w1.cell? ⟨A, 1, none⟩ = some (.int .i64 ma) ∧ w1.cell? ⟨A, 2, none⟩ = some (.int .i64 da) ∧
    w1.cell? ⟨B, 0, none⟩ = some (.int .i64 yb) ∧ w1.cell? ⟨B, 1, none⟩ = some (.int .i64 mb) ∧ w1.cell? ⟨B, 2, none⟩ = some (.int .i64 db) := ⟨h.a.c0, h.a.c1, h.a.c2, h.b.c0, h.b.c1, h.b.c2⟩
theorem TwoAt.new {w : World} (T : Mon w) (ya ma da yb mb db : Int) :
    TwoAt w w.heap.size (w.heap.size + 1) ya ma da yb mb db ((w.alloc (Obj.cells #[.int .i64 ya, .int .i64 ma, .int .i64 da] 23)).alloc (Obj.cells #[.int .i64 yb, .int .i64 mb, .int .i64 db] 23)) := by
  have h := At3.new (w.alloc (Obj.cells #[.int .i64 ya, .int .i64 ma, .int .i64 da] 23)) yb mb db
  rw [World.size_alloc] at h
  exact ⟨(At3.new w ya ma da).alloc _, h, ((Base.refl T).alloc _).alloc _⟩

theorem thirty_any (y m d v : Int) (h : mayD y m d) (hv : thirtyD y m d = v) (w : World) :
    Calls Tryd.prog 11 #[.agg #[.int .i64 y, .int .i64 m, .int .i64 d]] w fun e w' => e = .returned (.int .i64 v) ∧ Below w.heap.size w w' := by
  obtain ⟨y1, y2, m1, m2, d1, d2⟩ := mayD_in h
  unfold thirtyD at hv
  clear h
  by_cases hd : d = 31
  · rw [if_pos hd] at hv
    subst hd
    have HV := Lib.hid hv
    clear hv
    go_enter Tryd.func11, Tryd.ntmps11
    go_wp2
    go_ret
    exact ⟨retI HV.out, (Below.refl _ _).alloc (Nat.le_refl _) _⟩
  · rw [if_neg hd] at hv
    have HV := Lib.hid hv
    have hd' : (d == 31) = false := by simpa using hd
    clear hv hd
    go_enter Tryd.func11, Tryd.ntmps11
    go_wp2
    go_ret
    exact ⟨retI HV.out, (Below.refl _ _).alloc (Nat.le_refl _) _⟩

set_option maxHeartbeats 4000000 in
theorem countBetween_walk (CC : Hid CountC) (ya ma da yb mb db : Int) (w : World) (T : Mon w) :
    Calls Tryd.prog 3 #[.agg #[.int .i64 ya, .int .i64 ma, .int .i64 da], .agg #[.int .i64 yb, .int .i64 mb, .int .i64 db]] w fun e w' => e = .returned (.bool true) ∧ Below w.heap.size w w' := by
  have hX := Lib.hid (TwoAt.new T ya ma da yb mb db)
  have rd := fun (w : World) (j k : Int) => run_eql_code w j k
  clear T
  go_enter Tryd.func3, Tryd.ntmps3
  go_wp2_with fail
  refine (up05_any CC _ hX.out.base.mon).mono ?_
  rintro e w1 ⟨rfl, hb1⟩
  have hX := Lib.hid (hX.out.call hb1)
  clear hb1
  obtain ⟨a0, a1, a2, b0, b1, b2⟩ := hX.out.s
  go_wp2_with fail
  refine (CC.out.between ya ma da yb mb db false _ hX.out.base.mon).mono ?_
  rintro e w2 ⟨hb2, k1, v1, h1, rfl⟩
  have hX := Lib.hid (hX.out.call hb2)
  have H1 := Lib.hid h1
  clear hb2 h1 a0 a1 a2 b0 b1 b2
  obtain ⟨a0, a1, a2, b0, b1, b2⟩ := hX.out.s
  go_wp2_with fail
  refine (CC.out.between ya ma da yb mb db true _ hX.out.base.mon).mono ?_
  rintro e w3 ⟨hb3, k2, v2, h2, rfl⟩
  have hX := Lib.hid (hX.out.call hb3)
  have H2 := Lib.hid h2
  clear hb3 h2 a0 a1 a2 b0 b1 b2
  obtain ⟨a0, a1, a2, b0, b1, b2⟩ := hX.out.s
  go_wp2_with fail
  refine (refMayD_any ya ma da _ rfl _).mono ?_
  rintro e w4 ⟨rfl, hb4⟩
  have hX := Lib.hid (hX.out.call hb4)
  obtain ⟨p, hp⟩ : ∃ p, decide (mayD ya ma da) = p := ⟨_, rfl⟩
  rw [hp]
  have HP := Lib.hid hp
  clear hb4 hp a0 a1 a2 b0 b1 b2
  obtain ⟨a0, a1, a2, b0, b1, b2⟩ := hX.out.s
  go_wp2_with fail
  refine (refMayD_any yb mb db _ rfl _).mono ?_
  rintro e w5 ⟨rfl, hb5⟩
  have hX := Lib.hid (hX.out.call hb5)
  obtain ⟨q, hq⟩ : ∃ q, decide (mayD yb mb db) = q := ⟨_, rfl⟩
  rw [hq]
  have HQ := Lib.hid hq
  clear hb5 hq a0 a1 a2 b0 b1 b2
  obtain ⟨a0, a1, a2, b0, b1, b2⟩ := hX.out.s
  by_cases hm : mayD ya ma da ∧ mayD yb mb db
  · obtain rfl : p = true := by rw [← HP.out]; exact decide_eq_true hm.1
    obtain rfl : q = true := by rw [← HQ.out]; exact decide_eq_true hm.2
    rcases H1.out with ⟨rfl, m1, m2, e1⟩ | ⟨_, h, _⟩
    rotate_left
    · exact absurd hm h
    rcases H2.out with ⟨rfl, _, _, e2⟩ | ⟨_, h, _⟩
    rotate_left
    · exact absurd hm h
    obtain ⟨na, hna⟩ : ∃ x, numD ya ma da = x := ⟨_, rfl⟩
    obtain ⟨nb, hnb⟩ : ∃ x, numD yb mb db = x := ⟨_, rfl⟩
    obtain ⟨ta, hta⟩ : ∃ x, thirtyD ya ma da = x := ⟨_, rfl⟩
    obtain ⟨tb, htb⟩ : ∃ x, thirtyD yb mb db = x := ⟨_, rfl⟩
    have n1 := num_bound m1
    have n2 := num_bound m2
    have g1 := mayD_in m1
    have g2 := mayD_in m2
    have t1 : 0 ≤ ta ∧ ta ≤ 1000000 := by rw [← hta]; unfold thirtyD; split <;> omega
    have t2 : 0 ≤ tb ∧ tb ≤ 1000000 := by rw [← htb]; unfold thirtyD; split <;> omega
    unfold btw at e1 e2
    simp only [Bool.false_eq_true, if_false, if_true] at e1 e2
    rw [hna, hnb] at e1
    rw [hta, htb] at e2
    rw [hna] at n1
    rw [hnb] at n2
    subst e1 e2
    have s1 : IntKind.i64.wrap (nb - na) = nb - na := IntWalk.i64_in _ (by omega)
    have s2 : IntKind.i64.wrap (tb - ta) = tb - ta := IntWalk.i64_in _ (by omega)
    have c1 : (nb - na == nb - na) = true := by simp
    have c2 : (tb - ta == tb - ta) = true := by simp
    have HN := Lib.hid (And.intro hna (And.intro hnb (And.intro hta htb)))
    have HM := Lib.hid (And.intro m1 m2)
    clear hna hnb hta htb n1 n2 g1 g2 t1 t2 m1 m2 hm H1 H2 HP HQ
    rw [errv_0]
    go_wp2_with fail
    go_region_held3 (fun w' => w'.cell? ⟨w.heap.size, 0, none⟩ = some (.int .i64 ya) ∧ w'.cell? ⟨w.heap.size, 1, none⟩ = some (.int .i64 ma) ∧ w'.cell? ⟨w.heap.size, 2, none⟩ = some (.int .i64 da) ∧
        w'.cell? ⟨w.heap.size + 1, 0, none⟩ = some (.int .i64 yb) ∧ w'.cell? ⟨w.heap.size + 1, 1, none⟩ = some (.int .i64 mb) ∧ w'.cell? ⟨w.heap.size + 1, 2, none⟩ = some (.int .i64 db))
      (first | exact hX.out.s | exact (hX.out.drewN 1).s)
      (first
        | (go_at_call 10; (first | (with_reducible refine (refNumber_any yb mb db nb HM.out.2 HN.out.2.1 _).mono ?_) | (with_reducible refine (refNumber_any ya ma da na HM.out.1 HN.out.1 _).mono ?_)); rintro e w6 ⟨rfl, hb6⟩; have hX := Lib.hid (by first | exact hX.out.call hb6 | exact (hX.out.drewN 1).call hb6); clear hb6)
        | (go_at_call 11; (first | (with_reducible refine (thirty_any yb mb db tb HM.out.2 HN.out.2.2.2 _).mono ?_) | (with_reducible refine (thirty_any ya ma da ta HM.out.1 HN.out.2.2.1 _).mono ?_)); rintro e w6 ⟨rfl, hb6⟩; have hX := Lib.hid (by first | exact hX.out.call hb6 | exact (hX.out.drewN 1).call hb6); clear hb6))
    all_goals
      go_wp2_with fail
      go_ret
      exact ⟨by simp, hX.out.base.below⟩
  · rcases H1.out with ⟨_, m1, m2, _⟩ | ⟨rfl, _, rfl⟩
    · exact absurd ⟨m1, m2⟩ hm
    rcases H2.out with ⟨_, m1, m2, _⟩ | ⟨rfl, _, rfl⟩
    · exact absurd ⟨m1, m2⟩ hm
    have hpq : (p = false) ∨ (p = true ∧ q = false) := by
      cases p
      · exact Or.inl rfl
      · refine Or.inr ⟨rfl, ?_⟩
        cases q
        · rfl
        · exact absurd ⟨of_decide_eq_true HP.out, of_decide_eq_true HQ.out⟩ hm
    have e2v : errv 2 = errC 2 := rfl
    rw [e2v]
    clear hm H1 H2 HP HQ e2v
    rcases hpq with rfl | ⟨rfl, rfl⟩
    all_goals
      go_wp2_with fail
      go_ret
      exact ⟨by simp, hX.out.base.below⟩
end Go.Proofs.YtpddnmkoiplmkaaDoor
