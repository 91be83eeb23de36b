/- The contracts of the document's answers of layer 4: days, dates, numbers. -/
import Derived.Test.YtpddnmkoiplmkaaDoorProg
import Derived.Test.YtpddnmkoiplmkaaDoorDateNum
import Derived.WalkKit
import Derived.ProofKit
import Derived.LoopTactic
import Derived.Deep.QuietTactic
import Derived.BigQuiet
import Derived.Lib.Hide
import Derived.Deep.Draws
import Derived.Below
import Derived.WalkSmall
import Derived.WalkSpells
import Derived.Handy
namespace Go.Proofs.YtpddnmkoiplmkaaDoor
open Go Go.RowKit
set_option linter.unusedVariables false

theorem retI {k : IntKind} {a b : Int} (h : a = b) : Ending.returned (.int k a) = .returned (.int k b) := by rw [h]

set_option maxHeartbeats 2000000 in
theorem refDays_any (y m v : Int) (hv : dm y m = v) (w : World) :
    Calls Tryd.prog 20 #[.int .i64 y, .int .i64 m] w fun e w' => e = .returned (.int .i64 v) ∧ w' = w := by
  subst hv
  by_cases ho : y < 1900 ∨ 2199 < y ∨ m < 1 ∨ 12 < m
  · rw [dm_out ho]
    have hc : y < 1900 ∨ (1900 ≤ y ∧ 2199 < y) ∨ (1900 ≤ y ∧ y ≤ 2199 ∧ m < 1) ∨ (1900 ≤ y ∧ y ≤ 2199 ∧ 1 ≤ m ∧ 12 < m) := by omega
    clear ho
    rcases hc with h | ⟨h, h1⟩ | ⟨h, h1, h2⟩ | ⟨h, h1, h2, h3⟩
    all_goals
      go_enter Tryd.func20, Tryd.ntmps20
      go_wp2
      go_ret
      exact ⟨rfl, rfl⟩
  · have h1 : 1900 ≤ y := by omega
    have h2 : y ≤ 2199 := by omega
    by_cases hm : m = 2
    · subst hm
      by_cases l1 : y % 400 = 0
      · have e1 : (y % 400 == 0) = true := by simpa using l1
        have e2 : dm y 2 = 29 := by unfold dm; rw [if_neg ho, if_pos rfl, if_pos (show leapP y from Or.inl l1)]
        rw [e2]
        clear e2 l1 ho
        go_enter Tryd.func20, Tryd.ntmps20
        go_wp2
        go_ret
        exact ⟨rfl, rfl⟩
      · have e1 : (y % 400 == 0) = false := by simpa using l1
        by_cases l2 : y % 4 = 0
        · have e3 : (y % 4 == 0) = true := by simpa using l2
          by_cases l3 : y % 100 = 0
          · have e4 : (y % 100 != 0) = false := by simpa using l3
            have e2 : dm y 2 = 28 := by unfold dm; rw [if_neg ho, if_pos rfl, if_neg (show ¬ leapP y by unfold leapP; omega)]
            rw [e2]
            clear e2 l1 l2 l3 ho
            go_enter Tryd.func20, Tryd.ntmps20
            go_wp2
            go_ret
            exact ⟨rfl, rfl⟩
          · have e4 : (y % 100 != 0) = true := by simpa using l3
            have e2 : dm y 2 = 29 := by unfold dm; rw [if_neg ho, if_pos rfl, if_pos (show leapP y from Or.inr ⟨l2, l3⟩)]
            rw [e2]
            clear e2 l1 l2 l3 ho
            go_enter Tryd.func20, Tryd.ntmps20
            go_wp2
            go_ret
            exact ⟨rfl, rfl⟩
        · have e3 : (y % 4 == 0) = false := by simpa using l2
          have e2 : dm y 2 = 28 := by unfold dm; rw [if_neg ho, if_pos rfl, if_neg (show ¬ leapP y by unfold leapP; omega)]
          rw [e2]
          clear e2 l1 l2 ho
          go_enter Tryd.func20, Tryd.ntmps20
          go_wp2
          go_ret
          exact ⟨rfl, rfl⟩
    · have hc : m = 1 ∨ m = 3 ∨ m = 4 ∨ m = 5 ∨ m = 6 ∨ m = 7 ∨ m = 8 ∨ m = 9 ∨ m = 10 ∨ m = 11 ∨ m = 12 := by omega
      have hd : dm y m = if m = 4 ∨ m = 6 ∨ m = 9 ∨ m = 11 then 30 else 31 := by unfold dm; rw [if_neg ho, if_neg hm]
      rw [hd]
      clear hd ho hm
      rcases hc with rfl | rfl | rfl | rfl | rfl | rfl | rfl | rfl | rfl | rfl | rfl
      all_goals
        go_enter Tryd.func20, Tryd.ntmps20
        go_wp2
        go_ret
        exact ⟨rfl, rfl⟩

theorem refYear_any (y v : Int) (hv : yr y = v) (w : World) :
    Calls Tryd.prog 21 #[.int .i64 y] w fun e w' => e = .returned (.int .i64 v) ∧ w' = w := by
  obtain ⟨d, hd⟩ : ∃ d, dm y 2 = d := ⟨_, rfl⟩
  have hb := dm_bound y 2
  unfold yr at hv
  rw [hd] at hv hb
  obtain ⟨b1, b2⟩ := hb
  have HD := Lib.hid hd
  have HV := Lib.hid hv
  clear hd hv
  go_enter Tryd.func21, Tryd.ntmps21
  go_wp2_with fail
  refine (refDays_any y 2 d HD.out _).mono ?_
  rintro e w' ⟨rfl, rfl⟩
  go_wp2_with fail
  go_ret
  exact ⟨retI HV.out, rfl⟩

def dagg (y m d : Int) : Value := .agg #[.int .i64 y, .int .i64 m, .int .i64 d]

set_option maxHeartbeats 1000000 in
theorem refMayD_any (y m d : Int) (r : Bool) (hr : decide (mayD y m d) = r) (w : World) :
    Calls Tryd.prog 9 #[.agg #[.int .i64 y, .int .i64 m, .int .i64 d]] w fun e w' => e = .returned (.bool r) ∧ Below w.heap.size w w' := by
  subst hr
  by_cases h1 : 1 ≤ d
  · obtain ⟨v, hv⟩ : ∃ v, dm y m = v := ⟨_, rfl⟩
    have e0 : mayD y m d ↔ d ≤ v := by rw [← hv]; exact ⟨fun h => h.2, fun h => ⟨h1, h⟩⟩
    have e : decide (mayD y m d) = decide (d ≤ v) := decide_eq_decide.2 e0
    rw [e]
    have HV := Lib.hid hv
    clear hv e e0
    by_cases h2 : d ≤ v
    · have e2 : decide (d ≤ v) = true := by simpa using h2
      rw [e2]
      go_enter Tryd.func9, Tryd.ntmps9
      go_wp2_with fail
      go_quiet ((go_at_call 20; exact Calls.quiet_of_same (refDays_any y m v HV.out _)))
      go_wp2_with fail
      go_ret
      exact ⟨rfl, below_drewN ((Below.refl _ _).alloc (Nat.le_refl _) _) _⟩
    · have e2 : decide (d ≤ v) = false := by simpa using h2
      rw [e2]
      go_enter Tryd.func9, Tryd.ntmps9
      go_wp2_with fail
      go_quiet ((go_at_call 20; exact Calls.quiet_of_same (refDays_any y m v HV.out _)))
      go_wp2_with fail
      go_ret
      exact ⟨rfl, below_drewN ((Below.refl _ _).alloc (Nat.le_refl _) _) _⟩
  · have e : decide (mayD y m d) = false := by
      simp only [decide_eq_false_iff_not]
      exact fun h => h1 h.1
    rw [e]
    have h2 : d < 1 := by omega
    have h3 : decide (1 ≤ d) = false := by simpa using h2
    clear e h1
    go_enter Tryd.func9, Tryd.ntmps9
    go_wp2_with fail
    go_quiet (fail)
    go_wp2_with fail
    go_ret
    exact ⟨rfl, below_drewN ((Below.refl _ _).alloc (Nat.le_refl _) _) _⟩

/-- the days of the years from 1900 on -/
def Cy (y : Int) : Int := cy (y - 1900).toNat
theorem Cy_succ {y : Int} (h : 1900 ≤ y) : Cy (y + 1) = Cy y + yr y := by
  unfold Cy
  have e : (y + 1 - 1900).toNat = (y - 1900).toNat + 1 := by omega
  rw [e]
  simp only [cy]
  have e2 : 1900 + (((y - 1900).toNat : Nat) : Int) = y := by omega
  rw [e2]
theorem Cy_bound {y : Int} (h : 1900 ≤ y) (h' : y ≤ 2200) : 0 ≤ Cy y ∧ Cy y ≤ 109573 := by
  unfold Cy
  have a := cy_le (Nat.zero_le (y - 1900).toNat)
  have b := cy_le (k := (y - 1900).toNat) (n := 300) (by omega)
  rw [cy_300] at b
  have z : cy 0 = 0 := rfl
  omega
theorem Cy_1970 : Cy 1970 = 25567 := cy_70

set_option maxHeartbeats 4000000 in
theorem refNumber_any (y m d v : Int) (h : mayD y m d) (hv : numD y m d = v) (w : World) :
    Calls Tryd.prog 10 #[.agg #[.int .i64 y, .int .i64 m, .int .i64 d]] w fun e w' => e = .returned (.int .i64 v) ∧ Below w.heap.size w w' := by
  obtain ⟨y1, y2, m1, m2, d1, d2⟩ := mayD_in h
  have hn : numD y m d = d - 1 + sm y (m - 1).toNat + Cy y - 25567 := rfl
  have sb : Hid (∀ k : Nat, k ≤ 12 → 0 ≤ sm y k ∧ sm y k ≤ 366) := fun k hk => by
    have a := sm_nonneg y k
    have b := sm_le (y := y) (k := k) (n := 12) hk
    rw [sm_year y1 y2] at b
    have := (yr_bound y).2
    omega
  rw [hn] at hv
  have HV := Lib.hid hv
  clear hv hn h
  go_enter Tryd.func10, Tryd.ntmps10
  go_wp2_with fail
  go_loop [3, 4] (fun n i => ∃ k : Nat, (k : Int) ≤ m - 1 ∧ i = .int .i64 ((k : Int) + 1) ∧ n = .int .i64 (d - 1 + sm y k)) (fun _ i => (m - intOf i).toNat)
  case atStart => exact ⟨0, by omega, by go_num, by simp [sm]⟩
  case round =>
    obtain ⟨k, hk, rfl, rfl⟩ := hrel
    obtain ⟨s0, s1⟩ := sb.out k (by omega)
    by_cases hlt : (k : Int) + 1 < m
    · obtain ⟨t0, t1⟩ := sb.out (k + 1) (by omega)
      have e1 : sm y (k + 1) = sm y k + dm y ((k : Int) + 1) := rfl
      rw [e1] at t0 t1
      have E1 := Lib.hid e1
      obtain ⟨g, hg⟩ : ∃ g, dm y ((k : Int) + 1) = g := ⟨_, rfl⟩
      rw [hg] at t0 t1 E1
      have HG := Lib.hid hg
      clear e1 hg
      generalize sm y k = S at *
      go_wp2_with fail
      refine (refDays_any y ((k : Int) + 1) g HG.out _).mono ?_
      rintro e w' ⟨rfl, hw⟩
      subst w'
      go_wp2_with fail
      go_round
      case rel => exact ⟨k + 1, by omega, by go_num, by rw [E1.out]; go_num⟩
      case measure => simp [intOf]; omega
    · have hkm : (m - 1).toNat = k := by omega
      have HV2 : Hid (d - 1 + sm y k + Cy y - 25567 = v) := by rw [← hkm]; exact HV.out
      clear hkm
      generalize sm y k = S at *
      obtain ⟨M, hM⟩ : ∃ M : Int, M = max y 1970 := ⟨_, rfl⟩
      have hM1 : y ≤ M := by omega
      have hM2 : 1970 ≤ M := by omega
      have hM3 : M = y ∨ M = 1970 := by omega
      have hM4 : M ≤ 2199 := by omega
      clear hM
      go_wp2_with fail
      go_loop [3, 5] (fun n i => ∃ z : Int, 1970 ≤ z ∧ z ≤ M ∧ i = .int .i64 z ∧ n = .int .i64 (d - 1 + S + (Cy z - 25567))) (fun _ i => (M - intOf i).toNat)
      case atStart => exact ⟨1970, by omega, by omega, rfl, by rw [Cy_1970]; go_num⟩
      case round =>
        obtain ⟨z, hz1, hz2, rfl, rfl⟩ := hrel
        have cb := Cy_bound (y := z) (by omega) (by omega)
        obtain ⟨cb1, cb2⟩ := cb
        by_cases hzy : z < y
        · have e1 := Cy_succ (y := z) (by omega)
          obtain ⟨g, hg⟩ : ∃ g, yr z = g := ⟨_, rfl⟩
          have gb := yr_bound z
          rw [hg] at e1 gb
          obtain ⟨gb1, gb2⟩ := gb
          have HG := Lib.hid hg
          have E1 := Lib.hid e1
          clear hg e1
          generalize Cy z = Z at *
          go_wp2_with fail
          refine (refYear_any z g HG.out _).mono ?_
          rintro e w' ⟨rfl, hw⟩
          subst w'
          go_wp2_with fail
          go_round
          case rel => exact ⟨z + 1, by omega, by omega, rfl, by rw [E1.out]; go_num⟩
          case measure => simp [intOf]; omega
        · have hzM : z = M := by omega
          subst hzM
          have CB := Cy_bound (y := y) (by omega) (by omega)
          obtain ⟨cy1, cy2⟩ := CB
          have HC0 : Hid (z = y ∨ (z = 1970 ∧ Cy z = 25567)) := by
            rcases hM3 with h | h
            · exact Or.inl h
            · exact Or.inr ⟨h, by rw [h]; exact Cy_1970⟩
          obtain ⟨Z, hZ⟩ : ∃ Z, Cy z = Z := ⟨_, rfl⟩
          rw [hZ] at HC0 cb1 cb2 ⊢
          have HZ := Lib.hid hZ
          clear hZ
          go_wp2_with fail
          go_loop [3, 6] (fun n i => ∃ u : Int, y ≤ u ∧ u ≤ z ∧ i = .int .i64 u ∧ n = .int .i64 (d - 1 + S + (Z - 25567) - (Cy u - Cy y))) (fun _ i => (1970 - intOf i).toNat)
          case atStart => exact ⟨y, by omega, by omega, rfl, by go_num⟩
          case round =>
            obtain ⟨u, hu1, hu2, rfl, rfl⟩ := hrel
            have cu := Cy_bound (y := u) (by omega) (by omega)
            obtain ⟨cu1, cu2⟩ := cu
            by_cases hu : u < 1970
            · have e1 := Cy_succ (y := u) (by omega)
              obtain ⟨g, hg⟩ : ∃ g, yr u = g := ⟨_, rfl⟩
              have gb := yr_bound u
              rw [hg] at e1 gb
              obtain ⟨gb1, gb2⟩ := gb
              have HG := Lib.hid hg
              have E1 := Lib.hid e1
              clear hg e1
              generalize Cy u = U at *
              generalize Cy y = Y at *
              go_wp2_with fail
              refine (refYear_any u g HG.out _).mono ?_
              rintro e w' ⟨rfl, hw⟩
              subst w'
              go_wp2_with fail
              go_round
              case rel => exact ⟨u + 1, by omega, by omega, rfl, by rw [E1.out]; go_num⟩
              case measure => simp [intOf]; omega
            · have fin : d - 1 + S + (Z - 25567) - (Cy u - Cy y) = v := by
                have hv := HV2.out
                rcases HC0.out with h | ⟨h, hz⟩
                · have : u = y := by omega
                  subst this
                  have hzz := HZ.out
                  rw [h] at hzz
                  omega
                · have : u = 1970 := by omega
                  subst this
                  rw [Cy_1970]
                  omega
              have FIN := Lib.hid fin
              clear fin
              go_wp2_with fail
              go_ret
              exact ⟨retI FIN.out, (Below.refl _ _).alloc (Nat.le_refl _) _⟩
end Go.Proofs.YtpddnmkoiplmkaaDoor
