/- The contracts of package date, over its landed body. -/
import Derived.Test.YtpddnmkoiplmkaaDoorDateC
import Derived.IntWalk
import Derived.StillTailTactics
namespace Go.Proofs.YtpddnmkoiplmkaaDoor
open Go Go.RowKit
set_option linter.unusedVariables false

set_option maxHeartbeats 1000000 in
theorem may_any (y m d : Int) (r : Bool) (hr : decide (mayD y m d) = r) (w : World) (T : Mon w) :
    Calls Tryd.prog 29 #[.agg #[.int .i64 y, .int .i64 m, .int .i64 d]] w fun e w' => e = .returned (.bool r) ∧ Below w.heap.size w w' := by
  subst hr
  have HT := Lib.hid T
  clear T
  by_cases h1 : 1 ≤ d
  · obtain ⟨v, hv⟩ : ∃ v, dm y m = v := ⟨_, rfl⟩
    have e0 : mayD y m d ↔ d ≤ v := by rw [← hv]; exact ⟨fun h => h.2, fun h => ⟨h1, h⟩⟩
    have e : decide (mayD y m d) = decide (d ≤ v) := decide_eq_decide.2 e0
    rw [e]
    have HV := Lib.hid hv
    clear hv e e0
    by_cases h2 : d ≤ v
    · have e2 : decide (d ≤ v) = true := by simpa using h2
      rw [e2]
      go_enter Tryd.func29, Tryd.ntmps29
      go_wp2_with fail
      go_quiet ((go_at_call 30; exact Calls.quiet_of_same (days_any y m v HV.out _ (by first | exact HT.out.alloc _ | exact (HT.out.alloc _).drewN _))))
      go_wp2_with fail
      go_ret
      exact ⟨rfl, below_drewN ((Below.refl _ _).alloc (Nat.le_refl _) _) _⟩
    · have e2 : decide (d ≤ v) = false := by simpa using h2
      rw [e2]
      go_enter Tryd.func29, Tryd.ntmps29
      go_wp2_with fail
      go_quiet ((go_at_call 30; exact Calls.quiet_of_same (days_any y m v HV.out _ (by first | exact HT.out.alloc _ | exact (HT.out.alloc _).drewN _))))
      go_wp2_with fail
      go_ret
      exact ⟨rfl, below_drewN ((Below.refl _ _).alloc (Nat.le_refl _) _) _⟩
  · have e : decide (mayD y m d) = false := by
      simp only [decide_eq_false_iff_not]
      exact fun h => h1 h.1
    rw [e]
    have h2 : d < 1 := by omega
    have h3 : decide (1 ≤ d) = false := by simpa using h2
    clear e h1
    go_enter Tryd.func29, Tryd.ntmps29
    go_wp2_with fail
    go_quiet (fail)
    go_wp2_with fail
    go_ret
    exact ⟨rfl, below_drewN ((Below.refl _ _).alloc (Nat.le_refl _) _) _⟩

theorem box_below {w w1 : World} {o : Obj} (hb : Below (w.alloc o).heap.size (w.alloc o) w1) : Below w.heap.size w w1 :=
  ((Below.refl _ _).alloc (Nat.le_refl _) _).trans (hb.mono (by simp))

theorem box_cells2 {w w1 : World} {y m d a b c : Int} (hb : Below ((w.alloc (Obj.cells #[.int .i64 y, .int .i64 m, .int .i64 d] 23)).alloc (Obj.cells #[.int .i64 a, .int .i64 b, .int .i64 c] 23)).heap.size ((w.alloc (Obj.cells #[.int .i64 y, .int .i64 m, .int .i64 d] 23)).alloc (Obj.cells #[.int .i64 a, .int .i64 b, .int .i64 c] 23)) w1) :
    (w1.cell? ⟨w.heap.size, 0, none⟩ = some (.int .i64 y) ∧ w1.cell? ⟨w.heap.size, 1, none⟩ = some (.int .i64 m) ∧ w1.cell? ⟨w.heap.size, 2, none⟩ = some (.int .i64 d)) ∧
    (w1.cell? ⟨w.heap.size + 1, 0, none⟩ = some (.int .i64 a) ∧ w1.cell? ⟨w.heap.size + 1, 1, none⟩ = some (.int .i64 b) ∧ w1.cell? ⟨w.heap.size + 1, 2, none⟩ = some (.int .i64 c)) ∧
    w1.frozen? ⟨w.heap.size + 1, 0, none⟩ = false ∧ w1.frozen? ⟨w.heap.size + 1, 1, none⟩ = false ∧ w1.frozen? ⟨w.heap.size + 1, 2, none⟩ = false := by
  rw [World.size_alloc] at hb
  obtain ⟨h1, h2⟩ := date_cell hb
  rw [World.size_alloc] at h1 h2 hb
  refine ⟨?_, h1, h2⟩
  have h3 : ∀ o, w1.cell? ⟨w.heap.size, o, none⟩ = (w.alloc (Obj.cells #[.int .i64 y, .int .i64 m, .int .i64 d] 23)).cell? ⟨w.heap.size, o, none⟩ := fun o => by
    exact (hb.cell (p := ⟨w.heap.size, o, none⟩) (Nat.lt_succ_of_lt (Nat.lt_succ_self _))).trans (((Below.refl _ _).alloc (Nat.le_refl _) _).cell (p := ⟨w.heap.size, o, none⟩) (by simp))
  rw [h3, h3, h3]
  refine ⟨?_, ?_, ?_⟩ <;> simp
theorem box_below2 {w w1 : World} {o o' : Obj} (hb : Below ((w.alloc o).alloc o').heap.size ((w.alloc o).alloc o') w1) : Below w.heap.size w w1 :=
  (((Below.refl _ _).alloc (Nat.le_refl _) _).alloc (by simp) _).trans (hb.mono (by simp; omega))
theorem ret2I {k : IntKind} {a b : Int} {v : Value} (h : a = b) : Ending.returned (.tuple #[.int k a, v]) = .returned (.tuple #[.int k b, v]) := by rw [h]

theorem number_no (y m d : Int) (h : ¬ mayD y m d) (w : World) (T : Mon w) :
    Calls Tryd.prog 32 #[.agg #[.int .i64 y, .int .i64 m, .int .i64 d]] w fun e w' => e = .returned (.tuple #[.int .i64 0, errC 2]) ∧ Below w.heap.size w w' := by
  have H := Lib.hid (decide_eq_false h)
  have HT := Lib.hid T
  clear h T
  go_enter Tryd.func32, Tryd.ntmps32
  go_wp2_with fail
  refine (may_any y m d false H.out _ (HT.out.alloc _)).mono ?_
  rintro e w1 ⟨rfl, hb1⟩
  have HB := Lib.hid (box_below hb1)
  clear hb1
  go_wp2_with fail
  go_ret2
  exact ⟨rfl, HB.out⟩

set_option maxHeartbeats 2000000 in
theorem number_yes (y m d v : Int) (h : mayD y m d) (hv : numD y m d = v) (w : World) (T : Mon w) :
    Calls Tryd.prog 32 #[.agg #[.int .i64 y, .int .i64 m, .int .i64 d]] w fun e w' => e = .returned (.tuple #[.int .i64 v, .nilIface]) ∧ Below w.heap.size w w' := by
  obtain ⟨y1, y2, m1, m2, d1, d2⟩ := mayD_in h
  have hn : numD y m d = d - 1 + sm y (m - 1).toNat + Cy y - 25567 := rfl
  have sb : Hid (∀ k : Nat, k ≤ 12 → 0 ≤ sm y k ∧ sm y k ≤ 366) := fun k hk => by
    have a := sm_nonneg y k
    have b := sm_le (y := y) (k := k) (n := 12) hk
    rw [sm_year y1 y2] at b
    have := (yr_bound y).2
    omega
  obtain ⟨c1, c2⟩ := Cy_bound y1 (by omega)
  rw [hn] at hv
  obtain ⟨Y, hY⟩ : ∃ Y, Cy y - 25567 = Y := ⟨_, rfl⟩
  have Y1 : -25567 ≤ Y := by omega
  have Y2 : Y ≤ 84006 := by omega
  have HV := Lib.hid (show Y + d - 1 + sm y (m - 1).toNat = v by omega)
  have HY := Lib.hid hY
  have H := Lib.hid (decide_eq_true h)
  have HT := Lib.hid T
  clear hv hn h T hY c1 c2
  go_enter Tryd.func32, Tryd.ntmps32
  go_wp2_with fail
  refine (may_any y m d true H.out _ (HT.out.alloc _)).mono ?_
  rintro e w1 ⟨rfl, hb1⟩
  obtain ⟨c0, c1, c2⟩ := box_cells hb1
  have HT1 := Lib.hid (HT.out.of (box_below hb1))
  have HB := Lib.hid (box_below hb1)
  clear hb1
  go_wp2_with fail
  go_quiet ((go_at_call 42; exact Calls.quiet_of_same (newYear_any y Y y1 (by omega) HY.out _)))
  go_wp2_with fail
  go_loop [4, 5] (fun n i => ∃ k : Nat, (k : Int) ≤ m - 1 ∧ i = .int .i64 ((k : Int) + 1) ∧ n = .int .i64 (Y + d - 1 + sm y k)) (fun _ i => (m - intOf i).toNat)
  case atStart => exact ⟨0, by omega, by go_num, by simp [sm]⟩
  case round =>
    obtain ⟨k, hk, rfl, rfl⟩ := hrel
    obtain ⟨s0, s1⟩ := sb.out k (by omega)
    by_cases hlt : (k : Int) + 1 < m
    · obtain ⟨t0, t1⟩ := sb.out (k + 1) (by omega)
      have e1 : sm y (k + 1) = sm y k + dm y ((k : Int) + 1) := rfl
      rw [e1] at t0 t1
      have E1 := Lib.hid e1
      obtain ⟨g, hg⟩ : ∃ g, dm y ((k : Int) + 1) = g := ⟨_, rfl⟩
      rw [hg] at t0 t1 E1
      have HG := Lib.hid hg
      clear e1 hg
      generalize sm y k = S at *
      go_wp2_with fail
      refine (days_any y ((k : Int) + 1) g HG.out _ (HT1.out.drewN _)).mono ?_
      rintro e w' ⟨rfl, hw⟩
      subst w'
      go_wp2_with fail
      go_round
      case rel => exact ⟨k + 1, by omega, by go_num, by rw [E1.out]; go_num⟩
      case measure => simp [intOf]; omega
    · have hkm : (m - 1).toNat = k := by omega
      have HV2 : Hid (Y + d - 1 + sm y k = v) := by rw [← hkm]; exact HV.out
      clear hkm
      generalize sm y k = S at *
      go_wp2_with fail
      go_ret2
      exact ⟨ret2I HV2.out, below_drewN HB.out _⟩

theorem rest7 {n r : Int} (h : (n + 4).tmod 7 = r) : (r + 7) % 7 = (n + 4) % 7 := by
  subst h
  rw [Int.tmod_eq_emod]
  split <;> omega
theorem rest7_bound (n : Int) : -6 ≤ n.tmod 7 ∧ n.tmod 7 ≤ 6 := by
  rw [Int.tmod_eq_emod]
  split <;> omega

set_option maxHeartbeats 2000000 in
theorem months_any (y m d n : Int) (w : World) (T : Mon w) (n0 : -9223372036854775808 ≤ n) (n1 : n ≤ 9223372036854775807) : Calls Tryd.prog 17 #[.agg #[.int .i64 y, .int .i64 m, .int .i64 d], .int .i64 n] w fun e w' => Below w.heap.size w w' ∧
    ((¬ mayD y m d ∧ e = .returned (.tuple #[.agg #[.int .i64 0, .int .i64 0, .int .i64 0], errC 2])) ∨ (mayD y m d ∧ noMv y m n ∧ e = .returned (.tuple #[.agg #[.int .i64 0, .int .i64 0, .int .i64 0], errC 1])) ∨
     (mayD y m d ∧ ¬ noMv y m n ∧ e = .returned (.tuple #[.agg #[.int .i64 (mvY y m n), .int .i64 (mvM y m n), .int .i64 (mvD y m d n)], .nilIface]))) := by
  have HT := Lib.hid T
  have rn := build_none
  have rb := build_date
  clear T
  by_cases h : mayD y m d
  · obtain ⟨y1, y2, m1, m2, d1, d2⟩ := mayD_in h
    have H := Lib.hid h
    have HD := Lib.hid (decide_eq_true h)
    clear h
    by_cases hf : n < -3600 ∨ (-3600 ≤ n ∧ 3600 < n)
    · have HN := Lib.hid (show noMv y m n by unfold noMv; omega)
      rcases hf with hf | ⟨hf, hf'⟩
      all_goals
        go_enter Tryd.func17, Tryd.ntmps17
        go_wp2_with fail
        refine (may_any y m d true HD.out _ ((HT.out.alloc _).alloc _)).mono ?_
        rintro e w1 ⟨rfl, hb1⟩
        have hb2 := box_below2 hb1
        obtain ⟨-, ⟨z0, z1, z2⟩, f0, f1, f2⟩ := box_cells2 hb1
        have HB := Lib.hid hb2
        clear hb1 hb2
        go_wp2_with fail
        refine bodyPost_ret (v := .tuple #[.agg #[.int .i64 0, .int .i64 0, .int .i64 0], errC 1]) (by simp [results, Tryd.results17, go_sem, z0, z1, z2]) rfl ⟨?_, Or.inr (Or.inl ⟨H.out, HN.out, rfl⟩)⟩
        exact ((HB.out.setCell (by simp) _).setCell (by simp) _).setCell (by simp) _
    · have hn0 : -3600 ≤ n := by omega
      have hn1 : n ≤ 3600 := by omega
      obtain ⟨q, hq⟩ : ∃ q, 12 * y + m - 1 + n = q := ⟨_, rfl⟩
      have q0 : 0 ≤ q := by omega
      have q1 : q ≤ 30000 := by omega
      have eY : mvY y m n = q / 12 := by unfold mvY; omega
      have eM : mvM y m n = q % 12 + 1 := by unfold mvM; omega
      obtain ⟨v, hv⟩ : ∃ v, dm (q / 12) (q % 12 + 1) = v := ⟨_, rfl⟩
      have vb := dm_bound (q / 12) (q % 12 + 1)
      rw [hv] at vb
      obtain ⟨vb1, vb2⟩ := vb
      have hno : noMv y m n ↔ v = 0 := by
        unfold noMv; rw [eY, eM, hv]
        exact ⟨fun h => by omega, fun h => Or.inr (Or.inr h)⟩
      have hmd : mvD y m d n = min d v := by unfold mvD; rw [eY, eM, hv]
      have HV := Lib.hid hv
      have HE := Lib.hid (And.intro eY eM)
      clear hf hv eY eM
      by_cases hz : v = 0
      · have HNO := Lib.hid (hno.2 hz)
        have hz' : (v == 0) = true := by simpa using hz
        clear hno hmd hz
        go_enter Tryd.func17, Tryd.ntmps17
        go_wp2_with fail
        refine (may_any y m d true HD.out _ ((HT.out.alloc _).alloc _)).mono ?_
        rintro e w1 ⟨rfl, hb1⟩
        have hb2 := box_below2 hb1
        obtain ⟨⟨c0, c1, c2⟩, ⟨z0, z1, z2⟩, f0, f1, f2⟩ := box_cells2 hb1
        have HB := Lib.hid hb2
        have HT1 := Lib.hid (HT.out.of hb2)
        clear hb1 hb2
        go_wp2_with fail
        refine (days_any (q / 12) (q % 12 + 1) v HV.out _ HT1.out).mono ?_
        rintro e w' ⟨rfl, hw⟩
        subst w'
        go_wp2_with fail
        refine bodyPost_ret (v := .tuple #[.agg #[.int .i64 0, .int .i64 0, .int .i64 0], errC 1]) (by simp [results, Tryd.results17, go_sem, z0, z1, z2]) rfl ⟨?_, Or.inr (Or.inl ⟨H.out, HNO.out, rfl⟩)⟩
        exact ((HB.out.setCell (by simp) _).setCell (by simp) _).setCell (by simp) _
      · have HNO := Lib.hid (fun h => hz (hno.1 h))
        have hz' : (v == 0) = false := by simpa using hz
        obtain ⟨x, hx⟩ : ∃ x, min d v = x := ⟨_, rfl⟩
        have hxx : (x = d ∧ d ≤ v) ∨ (x = v ∧ v < d) := by omega
        rw [hx] at hmd
        have HMD := Lib.hid hmd
        clear hno hmd hz hx
        rcases hxx with ⟨rfl, hdv⟩ | ⟨rfl, hdv⟩
        all_goals
          go_enter Tryd.func17, Tryd.ntmps17
          go_wp2_with fail
          refine (may_any y m _ true HD.out _ ((HT.out.alloc _).alloc _)).mono ?_
          rintro e w1 ⟨rfl, hb1⟩
          have hb2 := box_below2 hb1
          obtain ⟨⟨c0, c1, c2⟩, ⟨z0, z1, z2⟩, f0, f1, f2⟩ := box_cells2 hb1
          have HB := Lib.hid hb2
          have HT1 := Lib.hid (HT.out.of hb2)
          clear hb1 hb2
          go_wp2_with fail
          refine (days_any (q / 12) (q % 12 + 1) _ HV.out _ HT1.out).mono ?_
          rintro e w' ⟨rfl, hw⟩
          subst w'
          go_wp2_with fail
          refine bodyPost_ret (v := .tuple #[.agg #[.int .i64 (q / 12), .int .i64 (q % 12 + 1), .int .i64 x], .nilIface]) (by simp [results, Tryd.results17, go_sem, z0, z1, z2]) rfl ⟨?_, Or.inr (Or.inr ⟨H.out, HNO.out, by rw [HMD.out, HE.out.1, HE.out.2]⟩)⟩
          exact ((HB.out.setCell (by simp) _).setCell (by simp) _).setCell (by simp) _
  · have H := Lib.hid h
    have HD := Lib.hid (decide_eq_false h)
    clear h
    go_enter Tryd.func17, Tryd.ntmps17
    go_wp2_with fail
    refine (may_any y m d false HD.out _ ((HT.out.alloc _).alloc _)).mono ?_
    rintro e w1 ⟨rfl, hb1⟩
    have hb2 := box_below2 hb1
    obtain ⟨-, ⟨z0, z1, z2⟩, f0, f1, f2⟩ := box_cells2 hb1
    have HB := Lib.hid hb2
    clear hb1 hb2
    go_wp2_with fail
    refine bodyPost_ret (v := .tuple #[.agg #[.int .i64 0, .int .i64 0, .int .i64 0], errC 2]) (by simp [results, Tryd.results17, go_sem, z0, z1, z2]) rfl ⟨?_, Or.inl ⟨H.out, rfl⟩⟩
    exact ((HB.out.setCell (by simp) _).setCell (by simp) _).setCell (by simp) _

theorem Cy_366 {y : Int} (k : Nat) (h : y = 1900 + (k : Int)) : Cy y ≤ 366 * (k : Int) := by
  subst h
  unfold Cy
  have e : (1900 + (k : Int) - 1900).toNat = k := by omega
  rw [e]
  clear e
  induction k with
  | zero => decide
  | succ k ih =>
    have := (yr_bound (1900 + (k : Int))).2
    simp only [cy]
    omega
theorem Cy_guess {n q : Int} (h : 0 ≤ n) (hq : n / 366 = q) : Cy (1900 + q) ≤ n := by
  have := Cy_366 (y := 1900 + q) q.toNat (by omega)
  omega

def OfIs (n : Int) (w : World) (e : Ending) (w' : World) : Prop :=
  (∃ y m d, e = .returned (.tuple #[.agg #[.int .i64 y, .int .i64 m, .int .i64 d], .nilIface]) ∧ mayD y m d ∧ numD y m d = n) ∧ Below w.heap.size w w'

/-- the contracts of package date hold -/
theorem date_any : DateC where
  may := fun y m d w T => may_any y m d _ rfl w T
  number := fun y m d w T => by
    by_cases h : mayD y m d
    · exact (number_yes y m d _ h rfl w T).mono fun e w' ⟨a, b⟩ => ⟨b, Or.inl ⟨h, a⟩⟩
    · exact (number_no y m d h w T).mono fun e w' ⟨a, b⟩ => ⟨b, Or.inr ⟨h, a⟩⟩
  months := fun y m d n w T h h' => months_any y m d n w T h h'
  days := fun y m w T => days_any y m _ rfl w T
#print axioms date_any
end Go.Proofs.YtpddnmkoiplmkaaDoor
