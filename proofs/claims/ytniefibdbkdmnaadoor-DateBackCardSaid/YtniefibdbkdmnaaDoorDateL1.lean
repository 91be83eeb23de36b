/- The walk of DateBack: a day and its number belong together. -/
import Derived.Test.YtniefibdbkdmnaaDoorBoxes
import Derived.IntWalk
namespace Go.Proofs.YtniefibdbkdmnaaDoor
open Go Go.RowKit
set_option linter.unusedVariables false

/-- what the next day may be -/
theorem next_cases {n y m d y' m' d' : Int} (h : mayD y m d) (hn : numD y m d = n) (h' : mayD y' m' d') (hn' : numD y' m' d' = n + 1) :
    (y' = y ∧ m' = m ∧ d' = d + 1) ∨ (y' = y ∧ m' = m + 1 ∧ d' = 1 ∧ d = dm y m) ∨ (y' = y + 1 ∧ m' = 1 ∧ d' = 1 ∧ m = 12 ∧ d = 31) := by
  rcases num_next h with ⟨_, a, b⟩ | ⟨e, _, a, b⟩ | ⟨e, e2, _, a, b⟩ | ⟨e, e2, e3⟩
  · obtain ⟨r1, r2, r3⟩ := num_one h' a (by omega)
    exact Or.inl ⟨r1, r2, r3⟩
  · obtain ⟨r1, r2, r3⟩ := num_one h' a (by omega)
    exact Or.inr (Or.inl ⟨r1, r2, r3, e⟩)
  · obtain ⟨r1, r2, r3⟩ := num_one h' a (by omega)
    exact Or.inr (Or.inr ⟨r1, r2, r3, e2, e⟩)
  · exfalso
    have := num_bound h'
    subst e e2 e3
    rw [last_num] at hn
    omega

theorem last_day {n y m d : Int} (h : mayD y m d) (hn : numD y m d = n) (h' : n + 1 < -25567 ∨ 84005 < n + 1) : y = 2199 ∧ m = 12 ∧ d = 31 := by
  have b := num_bound h
  exact num_one h last_may (by rw [last_num]; omega)


/-- the walk up to region 13, for one case of what the next day is -/
def NextCase (c : Nat) (y m d y' m' d' : Int) : Prop :=
  (c = 0 ∧ y' = y ∧ m' = m ∧ d' = d + 1) ∨ (c = 1 ∧ y' = y ∧ m' = m + 1 ∧ d' = 1 ∧ d = dm y m) ∨ (c = 2 ∧ y' = y + 1 ∧ m' = 1 ∧ d' = 1 ∧ m = 12 ∧ d = 31)

set_option maxRecDepth 100000 in
set_option maxHeartbeats 16000000 in
theorem dateBack_in (DC : Hid DateC) (n : Int) (n0 : -9223372036854775808 ≤ n) (n1 : n ≤ 9223372036854775807) (w : World) (T : Mon w) :
    Calls Tryd.prog 6 #[.int .i64 n] w fun e w' => e = .returned (.bool true) ∧ Below w.heap.size w w' := by
  have HB := Lib.hid (Base.refl T)
  have re := run_eql_date
  have rg := run_guard_date
  have rb := build_date
  clear T
  go_enter Tryd.func6, Tryd.ntmps6
  go_wp2_with fail
  refine (up04_any DC _ HB.out.mon).mono ?_
  rintro e w1 ⟨rfl, hb1⟩
  have HB1 := Lib.hid (HB.out.call hb1)
  clear hb1 HB
  go_wp2_with fail
  refine (DC.out.of n _ HB1.out.mon n0 n1).mono ?_
  rintro e w2 ⟨hb2, ⟨l0, l1, y, m, d, rfl, hmay, hnum⟩ | ⟨hout, rfl⟩⟩
  · obtain ⟨y1, y2, m1, m2, d1, d2⟩ := mayD_in hmay
    have HB2 := Lib.hid ((HB1.out.call hb2).alloc (Obj.cells #[.int .i64 y, .int .i64 m, .int .i64 d] 23))
    have HX2 := Lib.hid (At3.new w2 y m d)
    have HM := Lib.hid hmay
    have HN := Lib.hid hnum
    clear hb2 hmay hnum HB1
    go_wp2_with fail
    refine (DC.out.number y m d _ HB2.out.mon).mono ?_
    rintro e w3 ⟨hb3, ⟨_, rfl⟩ | ⟨h, _⟩⟩
    rotate_left
    · exact absurd HM.out h
    rw [HN.out]
    have HB3 := Lib.hid (HB2.out.call hb3)
    have HX3 := Lib.hid (HX2.out.call hb3)
    obtain ⟨c0, c1, c2⟩ := HX3.out.s
    clear hb3 HB2 HX2
    go_wp2_with fail
    refine (DC.out.weekday y m d _ HB3.out.mon).mono ?_
    rintro e w4 ⟨hb4, ⟨_, rfl⟩ | ⟨h, _⟩⟩
    rotate_left
    · exact absurd HM.out h
    rw [HN.out]
    have HB4 := Lib.hid (HB3.out.call hb4)
    have HX4 := Lib.hid (HX3.out.call hb4)
    clear hb4 c0 c1 c2 HB3 HX3
    have t0 : (n != n) = false := by simp
    obtain ⟨r, hr⟩ : ∃ r, (n + 4) % 7 = r := ⟨_, rfl⟩
    have r0 : 0 ≤ r := by omega
    have r1 : r ≤ 6 := by omega
    have HR := Lib.hid hr
    rw [hr]
    clear hr
    go_wp2_with fail
    refine (DC.out.of (n + 1) _ HB4.out.mon (by omega) (by omega)).mono ?_
    rintro e w5 ⟨hb5, ⟨k0, k1, y', m', d', rfl, hmay', hnum'⟩ | ⟨hout, rfl⟩⟩
    · have HC := Lib.hid (next_cases HM.out HN.out hmay' hnum')
      have HB5 := Lib.hid ((HB4.out.call hb5).alloc (Obj.cells #[.int .i64 y', .int .i64 m', .int .i64 d'] 23))
      have HX5 := Lib.hid ((HX4.out.call hb5).alloc (Obj.cells #[.int .i64 y', .int .i64 m', .int .i64 d'] 23))
      have HY5 := Lib.hid (At3.new w5 y' m' d')
      have HM' := Lib.hid hmay'
      have HN' := Lib.hid hnum'
      clear hb5 hmay' hnum' HB4 HX4
      go_wp2_with fail
      refine (DC.out.weekday y' m' d' _ HB5.out.mon).mono ?_
      rintro e w6 ⟨hb6, ⟨_, rfl⟩ | ⟨h, _⟩⟩
      rotate_left
      · exact absurd HM'.out h
      rw [HN'.out]
      have HB6 := Lib.hid (HB5.out.call hb6)
      obtain ⟨c0, c1, c2⟩ := (HX5.out.call hb6).s
      obtain ⟨a0, a1, a2⟩ := (HY5.out.call hb6).s
      have hw7 : ((n + 1 + 4) % 7) = (r + 1) % 7 := by have := HR.out; omega
      rw [hw7]
      obtain ⟨q, hq⟩ : ∃ q, (r + 1) % 7 = q := ⟨_, rfl⟩
      have t1 : (q == q) = true := by simp
      have HT6 := Lib.hid HB6.out.mon
      rw [hq]
      clear hb6 HB5 HX5 HY5 hw7 HM' HN' HR t0
      rcases HC.out with ⟨rfl, rfl, rfl⟩ | ⟨rfl, rfl, rfl, hdd⟩ | ⟨rfl, rfl, rfl, rfl, rfl⟩
      · have e1 : (y' == y') = true := by simp
        have e2 : (m' == m') = true := by simp
        have e3 : (d + 1 == d + 1) = true := by simp
        have s1 : IntKind.i64.wrap (d + 1) = d + 1 := IntWalk.i64_in _ (by omega)
        clear HC l0 l1 n0 n1 k0 k1 HM HN
        go_wp2_with fail
        refine wp_region_quiet_lit (by kernel_rfl) (by kernel_rfl) ?_
        simp only [List.append]
        repeat (go_big_quiet_step (fail))
        refine wpQuiet_nil ?_
        intro _ hw'
        obtain ⟨nq, hw''⟩ := hw'
        subst hw''
        go_wp2_with fail
        go_ret
        exact ⟨rfl, below_drewN HB6.out.below _⟩
      · have e1 : (y' == y') = true := by simp
        have e2 : (m + 1 == m) = false := beq_false_of_ne (by omega)
        have e3 : (m + 1 == m + 1) = true := by simp
        have e4 : (d == dm y' m) = true := by simpa using hdd
        have s1 : IntKind.i64.wrap (m + 1) = m + 1 := IntWalk.i64_in _ (by omega)
        clear HC l0 l1 n0 n1 k0 k1 HM HN hdd
        go_wp2_with fail
        refine wp_region_quiet_lit (by kernel_rfl) (by kernel_rfl) ?_
        simp only [List.append]
        repeat (go_big_quiet_step ((go_at_call 11; exact Calls.quiet_of_same (DC.out.days y' m _ (HT6.out.drewN _)))))
        refine wpQuiet_nil ?_
        intro _ hw'
        obtain ⟨nq, hw''⟩ := hw'
        subst hw''
        go_wp2_with fail
        go_ret
        exact ⟨rfl, below_drewN HB6.out.below _⟩
      · have e1 : (y + 1 == y) = false := beq_false_of_ne (by omega)
        have e2 : (y + 1 == y + 1) = true := by simp
        have s1 : IntKind.i64.wrap (y + 1) = y + 1 := IntWalk.i64_in _ (by omega)
        clear HC l0 l1 n0 n1 k0 k1 HM HN
        go_wp2_with fail
        refine wp_region_quiet_lit (by kernel_rfl) (by kernel_rfl) ?_
        simp only [List.append]
        repeat (go_big_quiet_step (fail))
        refine wpQuiet_nil ?_
        intro _ hw'
        obtain ⟨nq, hw''⟩ := hw'
        subst hw''
        go_wp2_with fail
        go_ret
        exact ⟨rfl, below_drewN HB6.out.below _⟩
    · obtain ⟨rfl, rfl, rfl⟩ := last_day HM.out HN.out hout
      have HB5 := Lib.hid ((HB4.out.call hb5).alloc (Obj.cells #[.int .i64 0, .int .i64 0, .int .i64 0] 23))
      obtain ⟨c0, c1, c2⟩ := ((HX4.out.call hb5).alloc (Obj.cells #[.int .i64 0, .int .i64 0, .int .i64 0] 23)).s
      have z5 := (HX4.out.call hb5).lt
      obtain ⟨b0, b1, b2⟩ := (HX4.out.call hb5).s
      clear hb5 HB4 HX4
      go_wp2_with fail
      go_ret
      exact ⟨rfl, HB5.out.below⟩
  · have HB2 := Lib.hid ((HB1.out.call hb2).alloc (Obj.cells #[.int .i64 0, .int .i64 0, .int .i64 0] 23))
    clear hb2
    go_wp2_with fail
    go_ret
    exact ⟨rfl, HB2.out.below⟩
end Go.Proofs.YtniefibdbkdmnaaDoor
