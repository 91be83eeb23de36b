/- The contract of the document's answer of layer 4: the day so many months behind. -/
import Derived.Test.YtniefibdbkdmnaaDoorDateRef2
namespace Go.Proofs.YtniefibdbkdmnaaDoor
open Go Go.RowKit
set_option linter.unusedVariables false

/-- the day so many months behind: none -/
def noMv (y m n : Int) : Prop := n < -3600 ∨ 3600 < n ∨ dm (mvY y m n) (mvM y m n) = 0
def mvD (y m d n : Int) : Int := min d (dm (mvY y m n) (mvM y m n))

def MonthsTo (y m d n : Int) (w : World) (e : Ending) (w' : World) : Prop :=
  Below w.heap.size w w' ∧
  ((noMv y m n ∧ e = .returned (.tuple #[.agg #[.int .i64 0, .int .i64 0, .int .i64 0], .bool false])) ∨
   (¬ noMv y m n ∧ e = .returned (.tuple #[.agg #[.int .i64 (mvY y m n), .int .i64 (mvM y m n), .int .i64 (mvD y m d n)], .bool true])))

def mbox (w : World) (y m d : Int) : World :=
  (w.alloc (Obj.cells #[.int .i64 y, .int .i64 m, .int .i64 d] 23)).alloc (Obj.cells #[.int .i64 0, .int .i64 0, .int .i64 0] 23)

theorem mv_up {y m k : Int} (h : mvM y m k + 1 ≤ 12) : mvY y m (k + 1) = mvY y m k ∧ mvM y m (k + 1) = mvM y m k + 1 := by unfold mvY mvM at *; omega
theorem mv_up' {y m k : Int} (h : 12 < mvM y m k + 1) : mvY y m (k + 1) = mvY y m k + 1 ∧ mvM y m (k + 1) = 1 := by unfold mvY mvM at *; omega
theorem mv_down {y m k : Int} (h : 1 ≤ mvM y m k - 1) : mvY y m (k - 1) = mvY y m k ∧ mvM y m (k - 1) = mvM y m k - 1 := by unfold mvY mvM at *; omega
theorem mv_down' {y m k : Int} (h : mvM y m k - 1 < 1) : mvY y m (k - 1) = mvY y m k - 1 ∧ mvM y m (k - 1) = 12 := by unfold mvY mvM at *; omega
theorem mv_year {y m k : Int} (hy : 1900 ≤ y) (hy' : y ≤ 2199) (hm : 1 ≤ m) (hm' : m ≤ 12) (hk : -3600 ≤ k) (hk' : k ≤ 3600) : 1500 ≤ mvY y m k ∧ mvY y m k ≤ 2600 := by unfold mvY; omega

set_option maxHeartbeats 1000000 in
theorem refMonths_far (y m d n : Int) (h : n < -3600 ∨ 3600 < n) (w : World) :
    Calls Tryd.prog 20 #[.agg #[.int .i64 y, .int .i64 m, .int .i64 d], .int .i64 n] w (MonthsTo y m d n w) := by
  have hn : noMv y m n := by unfold noMv; omega
  have HN := Lib.hid hn
  have hc : n < -3600 ∨ (-3600 ≤ n ∧ 3600 < n) := by omega
  clear hn h
  rcases hc with h | ⟨h, h1⟩
  all_goals
    go_enter Tryd.func20, Tryd.ntmps20
    go_wp2_with fail
    refine bodyPost_ret (v := .tuple #[.agg #[.int .i64 0, .int .i64 0, .int .i64 0], .bool false]) (by simp [results, Tryd.results20, go_sem]) rfl ⟨?_, Or.inl ⟨HN.out, rfl⟩⟩
    exact ((Below.refl _ _).alloc (Nat.le_refl _) _).alloc (by simp) _

set_option maxHeartbeats 4000000 in
theorem refMonths_near (y m d n : Int) (hd : mayD y m d) (hn : -3600 ≤ n) (hn' : n ≤ 3600) (w : World) :
    Calls Tryd.prog 20 #[.agg #[.int .i64 y, .int .i64 m, .int .i64 d], .int .i64 n] w (MonthsTo y m d n w) := by
  obtain ⟨y1, y2, m1, m2, d1, d2⟩ := mayD_in hd
  have MY : Hid (∀ k, -3600 ≤ k → k ≤ 3600 → 1500 ≤ mvY y m k ∧ mvY y m k ≤ 2600) := fun k h h' => mv_year y1 y2 m1 m2 h h'
  have MZ := Lib.hid (mv_zero (y := y) m1 m2)
  clear hd
  go_enter Tryd.func20, Tryd.ntmps20
  go_wp2_with fail
  go_loopw [1] (fun c wr => ∃ k : Int, 0 ≤ k ∧ (k ≤ n ∨ k = 0) ∧ c = .int .i64 (n - k) ∧ wr = (w.alloc (Obj.cells #[.int .i64 (mvY y m k), .int .i64 (mvM y m k), .int .i64 d] 23)).alloc (Obj.cells #[.int .i64 0, .int .i64 0, .int .i64 0] 23)) (fun c _ => (intOf c).toNat)
  case atStart => exact ⟨0, by omega, Or.inr rfl, by go_num, by rw [MZ.out.1, MZ.out.2]⟩
  case round =>
    obtain ⟨k, k1, k2, rfl, rfl⟩ := hrel
    have k3 : k ≤ 3600 := by omega
    obtain ⟨b1, b2⟩ := MY.out k (by omega) k3
    obtain ⟨r1, r2⟩ := mv_room y m k
    by_cases hlt : k < n
    · have c0 : 0 < n - k := by omega
      by_cases hm : mvM y m k + 1 ≤ 12
      · obtain ⟨e1, e2⟩ := mv_up hm
        have E1 := Lib.hid e1
        have E2 := Lib.hid e2
        clear e1 e2
        generalize mvY y m k = Y at *
        generalize mvM y m k = M at *
        go_wp2_with fail
        go_roundw
        case rel => exact ⟨k + 1, by omega, Or.inl (by omega), by go_num, by rw [E1.out, E2.out]⟩
        case measure => simp [intOf]; omega
      · have hm' : 12 < mvM y m k + 1 := by omega
        obtain ⟨e1, e2⟩ := mv_up' hm'
        have E1 := Lib.hid e1
        have E2 := Lib.hid e2
        clear e1 e2 hm
        generalize mvY y m k = Y at *
        generalize mvM y m k = M at *
        go_wp2_with fail
        go_roundw
        case rel => exact ⟨k + 1, by omega, Or.inl (by omega), by go_num, by rw [E1.out, E2.out]⟩
        case measure => simp [intOf]; omega
    · have c0 : ¬ 0 < n - k := by omega
      have hk0 : k = n ∨ (k = 0 ∧ n ≤ 0) := by omega
      have hle : n ≤ k := by omega
      clear hlt b1 b2 r1 r2
      generalize hY0 : mvY y m k = Y0
      generalize hM0 : mvM y m k = M0
      have HY0 := Lib.hid hY0
      have HM0 := Lib.hid hM0
      clear hY0 hM0
      go_wp2_with fail
      go_loopw [1] (fun c wr => ∃ j : Int, j ≤ k ∧ n ≤ j ∧ c = .int .i64 (n - j) ∧ wr = (w.alloc (Obj.cells #[.int .i64 (mvY y m j), .int .i64 (mvM y m j), .int .i64 d] 23)).alloc (Obj.cells #[.int .i64 0, .int .i64 0, .int .i64 0] 23)) (fun c _ => (-(intOf c)).toNat)
      case atStart => exact ⟨k, by omega, by omega, rfl, by rw [HY0.out, HM0.out]⟩
      case round =>
        obtain ⟨j, j1, j2, rfl, rfl⟩ := hrel
        obtain ⟨b1, b2⟩ := MY.out j (by omega) (by omega)
        obtain ⟨r1, r2⟩ := mv_room y m j
        by_cases hlt : n < j
        · have c1 : n - j < 0 := by omega
          by_cases hm : 1 ≤ mvM y m j - 1
          · obtain ⟨e1, e2⟩ := mv_down hm
            have E1 := Lib.hid e1
            have E2 := Lib.hid e2
            clear e1 e2
            generalize mvY y m j = Y at *
            generalize mvM y m j = M at *
            go_wp2_with fail
            go_roundw
            case rel => exact ⟨j - 1, by omega, by omega, by go_num, by rw [E1.out, E2.out]⟩
            case measure => simp [intOf]; omega
          · have hm' : mvM y m j - 1 < 1 := by omega
            obtain ⟨e1, e2⟩ := mv_down' hm'
            have E1 := Lib.hid e1
            have E2 := Lib.hid e2
            clear e1 e2 hm
            generalize mvY y m j = Y at *
            generalize mvM y m j = M at *
            go_wp2_with fail
            go_roundw
            case rel => exact ⟨j - 1, by omega, by omega, by go_num, by rw [E1.out, E2.out]⟩
            case measure => simp [intOf]; omega
        · have c1 : ¬ n - j < 0 := by omega
          obtain rfl : n = j := by omega
          obtain ⟨v, hv⟩ : ∃ v, dm (mvY y m n) (mvM y m n) = v := ⟨_, rfl⟩
          have vb := dm_bound (mvY y m n) (mvM y m n)
          rw [hv] at vb
          obtain ⟨vb1, vb2⟩ := vb
          have HV := Lib.hid hv
          have hno : Hid (noMv y m n ↔ v = 0) := by
            unfold noMv; rw [hv]
            exact ⟨fun h => by rcases h with h | h | h
                               · omega
                               · omega
                               · exact h, fun h => Or.inr (Or.inr h)⟩
          have hmd : Hid (mvD y m d n = min d v) := by unfold mvD; rw [hv]; exact (rfl : min d v = min d v)
          clear hv
          generalize hY : mvY y m n = Y at *
          generalize hM : mvM y m n = M at *
          have HY := Lib.hid hY
          have HM := Lib.hid hM
          clear hY hM
          by_cases hz : v = 0
          · have hz' : (v == 0) = true := by simpa using hz
            have HNO := Lib.hid (hno.out.2 hz)
            subst hz
            go_wp2_with fail
            refine (refDays_any Y M 0 HV.out _).mono ?_
            rintro e w' ⟨rfl, hw⟩
            subst w'
            go_wp2_with fail
            refine bodyPost_ret (v := .tuple #[.agg #[.int .i64 0, .int .i64 0, .int .i64 0], .bool false]) (by simp [results, Tryd.results20, go_sem]) rfl ⟨?_, Or.inl ⟨HNO.out, rfl⟩⟩
            exact ((Below.refl _ _).alloc (Nat.le_refl _) _).alloc (by simp) _
          · have hz' : (v == 0) = false := by simpa using hz
            have HNO : Hid (¬ noMv y m n) := fun h => hz (hno.out.1 h)
            clear hz
            by_cases hgt : v < d
            · have HD : Hid (mvD y m d n = v) := by rw [hmd.out]; exact (show min d v = v by omega)
              go_wp2_with fail
              refine (refDays_any Y M v HV.out _).mono ?_
              rintro e w' ⟨rfl, hw⟩
              subst w'
              go_wp2_with fail
              refine bodyPost_ret (v := .tuple #[.agg #[.int .i64 Y, .int .i64 M, .int .i64 v], .bool true]) (by simp [results, Tryd.results20, go_sem]) rfl ⟨?_, Or.inr ⟨HNO.out, by rw [HD.out, HY.out, HM.out]⟩⟩
              exact ((Below.refl _ _).alloc (Nat.le_refl _) _).alloc (by simp) _
            · have HD : Hid (mvD y m d n = d) := by rw [hmd.out]; exact (show min d v = d by omega)
              go_wp2_with fail
              refine (refDays_any Y M v HV.out _).mono ?_
              rintro e w' ⟨rfl, hw⟩
              subst w'
              go_wp2_with fail
              refine bodyPost_ret (v := .tuple #[.agg #[.int .i64 Y, .int .i64 M, .int .i64 d], .bool true]) (by simp [results, Tryd.results20, go_sem]) rfl ⟨?_, Or.inr ⟨HNO.out, by rw [HD.out, HY.out, HM.out]⟩⟩
              exact ((Below.refl _ _).alloc (Nat.le_refl _) _).alloc (by simp) _
end Go.Proofs.YtniefibdbkdmnaaDoor
