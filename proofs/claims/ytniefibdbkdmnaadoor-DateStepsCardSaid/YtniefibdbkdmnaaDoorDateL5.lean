/- The walk of DateSteps: months one by one come to the same as all at once, of days up to the 28th. -/
import Derived.Test.YtniefibdbkdmnaaDoorBoxes
namespace Go.Proofs.YtniefibdbkdmnaaDoor
open Go Go.RowKit
set_option linter.unusedVariables false

theorem dm_28 {y m d : Int} (h : 1 ≤ d) (h' : d ≤ 28) : mayD y m d ↔ dm y m ≠ 0 := by
  unfold mayD
  by_cases c : y < 1900 ∨ 2199 < y ∨ m < 1 ∨ 12 < m
  · rw [dm_out c]; omega
  · have := dm_in c; omega

/-- what months' answers come to, as a number of a case -/
def MvIs (y m d n : Int) (k p0 p1 p2 : Int) : Prop :=
  (k = 2 ∧ ¬ mayD y m d ∧ p0 = 0 ∧ p1 = 0 ∧ p2 = 0) ∨ (k = 1 ∧ mayD y m d ∧ noMv y m n ∧ p0 = 0 ∧ p1 = 0 ∧ p2 = 0) ∨
  (k = 0 ∧ mayD y m d ∧ ¬ noMv y m n ∧ p0 = mvY y m n ∧ p1 = mvM y m n ∧ p2 = mvD y m d n)

theorem months_k (DC : Hid DateC) (y m d n : Int) (w : World) (T : Mon w) (n0 : -9223372036854775808 ≤ n) (n1 : n ≤ 9223372036854775807) :
    Calls Tryd.prog 17 #[.agg #[.int .i64 y, .int .i64 m, .int .i64 d], .int .i64 n] w fun e w' => Below w.heap.size w w' ∧ ∃ k p0 p1 p2, MvIs y m d n k p0 p1 p2 ∧ e = .returned (.tuple #[.agg #[.int .i64 p0, .int .i64 p1, .int .i64 p2], errv k]) := by
  refine (DC.out.months y m d n w T n0 n1).mono ?_
  rintro e w' ⟨hb, ⟨h, rfl⟩ | ⟨h, h2, rfl⟩ | ⟨h, h2, rfl⟩⟩
  · exact ⟨hb, 2, 0, 0, 0, Or.inl ⟨rfl, h, rfl, rfl, rfl⟩, rfl⟩
  · exact ⟨hb, 1, 0, 0, 0, Or.inr (Or.inl ⟨rfl, h, h2, rfl, rfl, rfl⟩), rfl⟩
  · exact ⟨hb, 0, _, _, _, Or.inr (Or.inr ⟨rfl, h, h2, rfl, rfl, rfl⟩), rfl⟩

/-- months one behind the other -/
theorem mv_steps {y m d a b x0 x1 x2 k2 y0 y1 y2 k3 z0 z1 z2 : Int} (hd : d ≤ 28) (ha : -3600 ≤ a ∧ a ≤ 3600) (hb : -3600 ≤ b ∧ b ≤ 3600)
    (h1 : MvIs y m d a 0 x0 x1 x2) (h2 : MvIs x0 x1 x2 b k2 y0 y1 y2) (h3 : MvIs y m d (a + b) k3 z0 z1 z2) :
    ((k2 = 0 ∧ k3 = 0) ∨ (k2 ≠ 0 ∧ k3 ≠ 0)) ∧ y0 = z0 ∧ y1 = z1 ∧ y2 = z2 := by
  rcases h1 with ⟨h, _⟩ | ⟨h, _⟩ | ⟨-, hm, hn, rfl, rfl, rfl⟩
  · omega
  · omega
  obtain ⟨g1, g2, g3, g4, g5, g6⟩ := mayD_in hm
  have e := mv_add y m a b
  have hne : dm (mvY y m a) (mvM y m a) ≠ 0 := fun h => hn (Or.inr (Or.inr h))
  have hin : ¬ (mvY y m a < 1900 ∨ 2199 < mvY y m a ∨ mvM y m a < 1 ∨ 12 < mvM y m a) := fun h => hne (dm_out h)
  have hd2 : mvD y m d a = d := by unfold mvD; have := dm_in hin; omega
  rw [hd2] at h2
  have hm2 : mayD (mvY y m a) (mvM y m a) d := (dm_28 g5 hd).2 hne
  have hdd : ∀ n, dm (mvY y m n) (mvM y m n) ≠ 0 → mvD y m d n = d := fun n h => by
    unfold mvD
    have hin : ¬ (mvY y m n < 1900 ∨ 2199 < mvY y m n ∨ mvM y m n < 1 ∨ 12 < mvM y m n) := fun h' => h (dm_out h')
    have := dm_in hin; omega
  have hno : noMv (mvY y m a) (mvM y m a) b ↔ noMv y m (a + b) := by
    unfold noMv
    rw [e.1, e.2]
    constructor
    · rintro (h | h | h)
      · omega
      · omega
      · exact Or.inr (Or.inr h)
    · rintro (h | h | h)
      · refine Or.inr (Or.inr (dm_out ?_)); unfold mvY; omega
      · refine Or.inr (Or.inr (dm_out ?_)); unfold mvY; omega
      · exact Or.inr (Or.inr h)
  rcases h2 with ⟨_, h, _⟩ | ⟨rfl, _, h, rfl, rfl, rfl⟩ | ⟨rfl, _, h, rfl, rfl, rfl⟩
  · exact absurd hm2 h
  · rcases h3 with ⟨_, h', _⟩ | ⟨rfl, _, h', rfl, rfl, rfl⟩ | ⟨rfl, _, h', _⟩
    · exact absurd hm h'
    · exact ⟨Or.inr ⟨by omega, by omega⟩, rfl, rfl, rfl⟩
    · exact absurd (hno.1 h) h'
  · rcases h3 with ⟨_, h', _⟩ | ⟨rfl, _, h', _⟩ | ⟨rfl, _, h', rfl, rfl, rfl⟩
    · exact absurd hm h'
    · exact absurd (hno.2 h') h
    · refine ⟨Or.inl ⟨rfl, rfl⟩, e.1, e.2, ?_⟩
      have hz : dm (mvY y m (a + b)) (mvM y m (a + b)) ≠ 0 := fun h => h' (Or.inr (Or.inr h))
      rw [hdd _ hz]
      unfold mvD
      rw [e.1, e.2]
      have hin : ¬ (mvY y m (a + b) < 1900 ∨ 2199 < mvY y m (a + b) ∨ mvM y m (a + b) < 1 ∨ 12 < mvM y m (a + b)) := fun h' => hz (dm_out h')
      have := dm_in hin
      omega

set_option maxHeartbeats 4000000 in
theorem dateSteps_early (DC : Hid DateC) (y m d a b : Int) (w : World) (T : Mon w)
    (h : 28 < d ∨ (d ≤ 28 ∧ a < -3600) ∨ (d ≤ 28 ∧ -3600 ≤ a ∧ 3600 < a) ∨ (d ≤ 28 ∧ -3600 ≤ a ∧ a ≤ 3600 ∧ b < -3600) ∨ (d ≤ 28 ∧ -3600 ≤ a ∧ a ≤ 3600 ∧ -3600 ≤ b ∧ 3600 < b)) :
    Calls Tryd.prog 7 #[.agg #[.int .i64 y, .int .i64 m, .int .i64 d], .int .i64 a, .int .i64 b] w fun e w' => e = .returned (.bool true) ∧ Below w.heap.size w w' := by
  have HB := Lib.hid ((Base.refl T).alloc (Obj.cells #[.int .i64 y, .int .i64 m, .int .i64 d] 23))
  have HX := Lib.hid (At3.new w y m d)
  clear T
  rcases h with h | ⟨h, h1⟩ | ⟨h, h1, h2⟩ | ⟨h, h1, h2, h3⟩ | ⟨h, h1, h2, h3, h4⟩
  all_goals
    go_enter Tryd.func7, Tryd.ntmps7
    go_wp2_with fail
    refine (up04_any DC _ HB.out.mon).mono ?_
    rintro e w1 ⟨rfl, hb1⟩
    have HB1 := Lib.hid (HB.out.call hb1)
    obtain ⟨c0, c1, c2⟩ := (HX.out.call hb1).s
    clear hb1 HB HX
    go_wp2_with fail
    go_ret
    exact ⟨rfl, HB1.out.below⟩

set_option maxHeartbeats 4000000 in
theorem dateSteps_late (DC : Hid DateC) (y m d a b : Int) (w : World) (T : Mon w) (hd : d ≤ 28) (ha : -3600 ≤ a) (ha' : a ≤ 3600) (hb : -3600 ≤ b) (hb' : b ≤ 3600) :
    Calls Tryd.prog 7 #[.agg #[.int .i64 y, .int .i64 m, .int .i64 d], .int .i64 a, .int .i64 b] w fun e w' => e = .returned (.bool true) ∧ Below w.heap.size w w' := by
  have HB := Lib.hid ((Base.refl T).alloc (Obj.cells #[.int .i64 y, .int .i64 m, .int .i64 d] 23))
  have HX := Lib.hid (At3.new w y m d)
  have re := run_eql_date
  have rg := run_guard_date
  have qn := fun (w : World) (k : Int) => run_neq_errv_nil w k
  have qe := fun (w : World) (k : Int) => run_eql_errv_nil w k
  have gn := guard_neq_errv_nil
  have ge := guard_eql_errv_nil
  clear T
  go_enter Tryd.func7, Tryd.ntmps7
  go_wp2_with fail
  refine (up04_any DC _ HB.out.mon).mono ?_
  rintro e w1 ⟨rfl, hb1⟩
  have HB1 := Lib.hid (HB.out.call hb1)
  have HX1 := Lib.hid (HX.out.call hb1)
  obtain ⟨c0, c1, c2⟩ := HX1.out.s
  clear hb1 HB HX
  go_wp2_with fail
  refine (months_k DC y m d a _ HB1.out.mon (by omega) (by omega)).mono ?_
  rintro e w2 ⟨hb2, k1, x0, x1, x2, h1, rfl⟩
  have HB2 := Lib.hid ((HB1.out.call hb2).alloc (Obj.cells #[.int .i64 x0, .int .i64 x1, .int .i64 x2] 23))
  have HX2 := Lib.hid ((HX1.out.call hb2).alloc (Obj.cells #[.int .i64 x0, .int .i64 x1, .int .i64 x2] 23))
  have HY2 := Lib.hid (At3.new w2 x0 x1 x2)
  have z2 : w.heap.size < w2.heap.size := (HX1.out.call hb2).lt
  clear hb2 HB1 HX1 c0 c1 c2
  by_cases hk : k1 = 0
  · subst hk
    have H1 := Lib.hid h1
    clear h1
    go_wp2_with fail
    refine (months_k DC x0 x1 x2 b _ HB2.out.mon (by omega) (by omega)).mono ?_
    rintro e w3 ⟨hb3, k2, y0, y1, y2, h2, rfl⟩
    have HB3 := Lib.hid ((HB2.out.call hb3).alloc (Obj.cells #[.int .i64 y0, .int .i64 y1, .int .i64 y2] 23))
    have HX3 := Lib.hid ((HX2.out.call hb3).alloc (Obj.cells #[.int .i64 y0, .int .i64 y1, .int .i64 y2] 23))
    have HY3 := Lib.hid (At3.new w3 y0 y1 y2)
    have z3 : w.heap.size < w3.heap.size := (HX2.out.call hb3).lt
    obtain ⟨c0, c1, c2⟩ := HX3.out.s
    have H2 := Lib.hid h2
    clear hb3 HB2 HX2 HY2 h2
    have s1 : IntKind.i64.wrap (a + b) = a + b := IntWalk.i64_in _ (by omega)
    go_wp2_with fail
    refine (months_k DC y m d (a + b) _ HB3.out.mon (by omega) (by omega)).mono ?_
    rintro e w4 ⟨hb4, k3, q0, q1, q2, h3, rfl⟩
    have HB4 := Lib.hid ((HB3.out.call hb4).alloc (Obj.cells #[.int .i64 q0, .int .i64 q1, .int .i64 q2] 23))
    have HY4 := Lib.hid ((HY3.out.call hb4).alloc (Obj.cells #[.int .i64 q0, .int .i64 q1, .int .i64 q2] 23))
    have z4 : w3.heap.size < w4.heap.size := (HY3.out.call hb4).lt
    obtain ⟨hk, rfl, rfl, rfl⟩ := mv_steps hd ⟨ha, ha'⟩ ⟨hb, hb'⟩ H1.out H2.out h3
    have hkb : ((k2 == 0) == (k3 == 0)) = true := by
      rcases hk with ⟨rfl, rfl⟩ | ⟨h, h'⟩
      · rfl
      · have e1 : (k2 == 0) = false := by simpa using h
        have e2 : (k3 == 0) = false := by simpa using h'
        rw [e1, e2]; rfl
    obtain ⟨b0, b1, b2⟩ := HY4.out.s
    clear hb4 HB3 HX3 HY3 c0 c1 c2 hk h3 H1 H2 HY4
    go_wp2_with fail
    go_quiet (fail)
    go_wp2_with fail
    go_ret
    exact ⟨by simp, below_drewN HB4.out.below _⟩
  · have hk' : (k1 != 0) = true := by simpa using hk
    clear hk h1
    go_wp2_with fail
    go_ret
    exact ⟨rfl, HB2.out.below⟩

theorem dateSteps_walk (DC : Hid DateC) (y m d a b : Int) (w : World) (T : Mon w) :
    Calls Tryd.prog 7 #[.agg #[.int .i64 y, .int .i64 m, .int .i64 d], .int .i64 a, .int .i64 b] w fun e w' => e = .returned (.bool true) ∧ Below w.heap.size w w' := by
  by_cases h : 28 < d ∨ (d ≤ 28 ∧ a < -3600) ∨ (d ≤ 28 ∧ -3600 ≤ a ∧ 3600 < a) ∨ (d ≤ 28 ∧ -3600 ≤ a ∧ a ≤ 3600 ∧ b < -3600) ∨ (d ≤ 28 ∧ -3600 ≤ a ∧ a ≤ 3600 ∧ -3600 ≤ b ∧ 3600 < b)
  · exact dateSteps_early DC y m d a b w T h
  · exact dateSteps_late DC y m d a b w T (by omega) (by omega) (by omega) (by omega) (by omega)
end Go.Proofs.YtniefibdbkdmnaaDoor
