/- The contracts of the document's answers of layer 4: the date of a number, the day so many months behind. -/
import Derived.Test.YtniefibdbkdmnaaDoorDateRef
namespace Go.Proofs.YtniefibdbkdmnaaDoor
open Go Go.RowKit
set_option linter.unusedVariables false

theorem date_cell {w w2 : World} {a b c : Value} {t : TypeId} (hb : Below (w.heap.size + 1) (w.alloc (Obj.cells #[a, b, c] t)) w2) :
    (w2.cell? ⟨w.heap.size, 0, none⟩ = some a ∧ w2.cell? ⟨w.heap.size, 1, none⟩ = some b ∧ w2.cell? ⟨w.heap.size, 2, none⟩ = some c) ∧
    w2.frozen? ⟨w.heap.size, 0, none⟩ = false ∧ w2.frozen? ⟨w.heap.size, 1, none⟩ = false ∧ w2.frozen? ⟨w.heap.size, 2, none⟩ = false := by
  have hc : ∀ o, w2.cell? ⟨w.heap.size, o, none⟩ = (w.alloc (Obj.cells #[a, b, c] t)).cell? ⟨w.heap.size, o, none⟩ := fun o => hb.cell (p := ⟨w.heap.size, o, none⟩) (Nat.lt_succ_self _)
  have hf : ∀ o, w2.frozen? ⟨w.heap.size, o, none⟩ = (w.alloc (Obj.cells #[a, b, c] t)).frozen? ⟨w.heap.size, o, none⟩ := fun o => hb.frozen (p := ⟨w.heap.size, o, none⟩) (Nat.lt_succ_self _)
  rw [hc, hc, hc, hf, hf, hf]
  refine ⟨⟨?_, ?_, ?_⟩, ?_, ?_, ?_⟩ <;> simp

def zdate : Value := .agg #[.int .i64 0, .int .i64 0, .int .i64 0]

theorem first_num : numD 1900 1 1 = -25567 := by decide +kernel
theorem last_num : numD 2199 12 31 = 84005 := by decide +kernel
theorem first_may : mayD 1900 1 1 := by decide +kernel
theorem last_may : mayD 2199 12 31 := by decide +kernel

set_option maxHeartbeats 2000000 in
theorem refOf_no (n : Int) (h : n < -25567 ∨ 84005 < n) (w : World) :
    Calls Tryd.prog 16 #[.int .i64 n] w fun e w' => e = .returned (.tuple #[.agg #[.int .i64 0, .int .i64 0, .int .i64 0], .bool false]) ∧ Below w.heap.size w w' := by
  have hc : n < -25567 ∨ (-25567 ≤ n ∧ 84005 < n) := by omega
  clear h
  rcases hc with h | ⟨h, h1⟩
  all_goals
    go_enter Tryd.func16, Tryd.ntmps16
    go_wp2_with fail
    refine (refNumber_any 1900 1 1 (-25567) first_may first_num _).mono ?_
    rintro e w1 ⟨rfl, hb1⟩
    have HB1 := Lib.hid hb1
    clear hb1
    go_wp2_with fail
    refine (refNumber_any 2199 12 31 84005 last_may last_num _).mono ?_
    rintro e w2 ⟨rfl, hb2⟩
    have hb := HB1.out.trans (hb2.mono HB1.out.size)
    rw [World.size_alloc] at hb
    obtain ⟨⟨c0, c1, c2⟩, f0, f1, f2⟩ := date_cell hb
    have HB := Lib.hid (((Below.refl w.heap.size w).alloc (Nat.le_refl _) _).trans (hb.mono (Nat.le_succ _)))
    clear hb hb2 HB1
    go_wp2_with fail
    refine bodyPost_ret (v := .tuple #[.agg #[.int .i64 0, .int .i64 0, .int .i64 0], .bool false]) (by simp [results, Tryd.results16, go_sem, c0, c1, c2]) rfl ⟨rfl, ?_⟩
    exact ((HB.out.setCell (Nat.le_refl _) _).setCell (Nat.le_refl _) _).setCell (Nat.le_refl _) _

def OfTo (n : Int) (w : World) (e : Ending) (w' : World) : Prop :=
  (∃ y m d, e = .returned (.tuple #[.agg #[.int .i64 y, .int .i64 m, .int .i64 d], .bool true]) ∧ mayD y m d ∧ numD y m d = n) ∧ Below w.heap.size w w'

set_option maxHeartbeats 4000000 in
theorem refOf_yes (n : Int) (h : -25567 ≤ n) (h' : n ≤ 84005) (w : World) :
    Calls Tryd.prog 16 #[.int .i64 n] w (OfTo n w) := by
  go_enter Tryd.func16, Tryd.ntmps16
  go_wp2_with fail
  refine (refNumber_any 1900 1 1 (-25567) first_may first_num _).mono ?_
  rintro e w1 ⟨rfl, hb1⟩
  have HB1 := Lib.hid hb1
  clear hb1
  go_wp2_with fail
  refine (refNumber_any 2199 12 31 84005 last_may last_num _).mono ?_
  rintro e w2 ⟨rfl, hb2⟩
  have hb := HB1.out.trans (hb2.mono HB1.out.size)
  rw [World.size_alloc] at hb
  obtain ⟨⟨c0, c1, c2⟩, f0, f1, f2⟩ := date_cell hb
  have HB := Lib.hid (((Below.refl w.heap.size w).alloc (Nat.le_refl _) _).trans (hb.mono (Nat.le_succ _)))
  clear hb hb2 HB1
  go_wp2_with fail
  go_loop [0, 6] (fun r i => ∃ y : Int, 1900 ≤ y ∧ y ≤ 2199 ∧ 0 ≤ n + 25567 - Cy y ∧ i = .int .i64 y ∧ r = .int .i64 (n + 25567 - Cy y)) (fun _ i => (2199 - intOf i).toNat)
  case atStart => exact ⟨1900, by omega, by omega, by have : Cy 1900 = 0 := rfl; omega, rfl, by have e0 : Cy 1900 = 0 := rfl; rw [e0]; go_num⟩
  case round =>
    obtain ⟨y, y1, y2, hr, rfl, rfl⟩ := hrel
    obtain ⟨g, hg⟩ : ∃ g, yr y = g := ⟨_, rfl⟩
    have gb := yr_in y1 y2
    have e1 := Cy_succ y1
    have cb := Cy_bound y1 (by omega)
    have cb2 := Cy_bound (y := y + 1) (by omega) (by omega)
    have last : y = 2199 → Cy (y + 1) = 109573 := fun e => by subst e; exact cy_300
    rw [hg] at gb e1
    obtain ⟨gb1, gb2⟩ := gb
    obtain ⟨cb0, cb1⟩ := cb
    by_cases hlt : g ≤ n + 25567 - Cy y
    · have hy : y < 2199 := by
        refine Int.lt_of_not_ge fun hge => ?_
        have := last (by omega)
        omega
      have HG := Lib.hid hg
      have E1 := Lib.hid e1
      clear hg e1 last cb2
      generalize Cy y = Y at *
      go_wp2_with fail
      refine (refYear_any y g HG.out _).mono ?_
      rintro e w' ⟨rfl, hw⟩
      subst w'
      go_wp2_with fail
      refine (refYear_any y g HG.out _).mono ?_
      rintro e w' ⟨rfl, hw⟩
      subst w'
      go_wp2_with fail
      go_round
      case rel => exact ⟨y + 1, by omega, by omega, by rw [E1.out]; omega, rfl, by rw [E1.out]; go_num⟩
      case measure => simp [intOf]; omega
    · obtain ⟨q, hq⟩ : ∃ q, n + 25567 - Cy y = q := ⟨_, rfl⟩
      rw [hq] at hr hlt ⊢
      have hs := sm_year y1 y2
      rw [hg] at hs
      have HG := Lib.hid hg
      have HQ := Lib.hid hq
      have HS := Lib.hid hs
      clear hg e1 last cb2 hq hs cb0 cb1
      go_wp2_with fail
      refine (refYear_any y g HG.out _).mono ?_
      rintro e w' ⟨rfl, hw⟩
      subst w'
      go_wp2_with fail
      go_loop [0, 7] (fun r i => ∃ k : Nat, k ≤ 11 ∧ 0 ≤ q - sm y k ∧ i = .int .i64 ((k : Int) + 1) ∧ r = .int .i64 (q - sm y k)) (fun _ i => (12 - intOf i).toNat)
      case atStart => exact ⟨0, by omega, by simp [sm]; omega, by go_num, by simp [sm]⟩
      case round =>
        obtain ⟨k, hk, hs0, rfl, rfl⟩ := hrel
        obtain ⟨v, hv⟩ : ∃ v, dm y ((k : Int) + 1) = v := ⟨_, rfl⟩
        have vb := dm_in (y := y) (m := (k : Int) + 1) (by omega)
        have e1 : sm y (k + 1) = sm y k + dm y ((k : Int) + 1) := rfl
        have sn := sm_nonneg y k
        have sl := sm_le (y := y) (k := k + 1) (n := 12) (by omega)
        have sll : k = 11 → sm y (k + 1) = g := fun e => by subst e; exact HS.out
        rw [HS.out] at sl
        rw [hv] at vb e1
        obtain ⟨vb1, vb2⟩ := vb
        have hsm : sm y (((k : Int) + 1) - 1).toNat = sm y k := by congr 1; omega
        have HSM := Lib.hid hsm
        have HV := Lib.hid hv
        have E1 := Lib.hid e1
        clear hv hsm
        by_cases hlt2 : v ≤ q - sm y k
        · have hk2 : k < 11 := by
            refine Nat.lt_of_not_le fun hge => ?_
            have := sll (by omega)
            omega
          clear e1 sll
          generalize sm y k = S at *
          go_wp2_with fail
          refine (refDays_any y ((k : Int) + 1) v HV.out _).mono ?_
          rintro e w' ⟨rfl, hw⟩
          subst w'
          go_wp2_with fail
          refine (refDays_any y ((k : Int) + 1) v HV.out _).mono ?_
          rintro e w' ⟨rfl, hw⟩
          subst w'
          go_wp2_with fail
          go_round
          case rel => exact ⟨k + 1, by omega, by rw [E1.out]; omega, by go_num, by rw [E1.out]; go_num⟩
          case measure => simp [intOf]; omega
        · have hmay : mayD y ((k : Int) + 1) (q - sm y k + 1) := ⟨by omega, by rw [HV.out]; omega⟩
          have hnum : numD y ((k : Int) + 1) (q - sm y k + 1) = n := by
            unfold numD
            rw [HSM.out]
            have h1 := HQ.out
            have h2 : Cy y = cy (y - 1900).toNat := rfl
            rw [h2] at h1
            omega
          have HM := Lib.hid hmay
          have HN := Lib.hid hnum
          clear e1 sll hmay hnum
          generalize sm y k = S at *
          go_wp2_with fail
          refine (refDays_any y ((k : Int) + 1) v HV.out _).mono ?_
          rintro e w' ⟨rfl, hw⟩
          subst w'
          go_wp2_with fail
          refine bodyPost_ret (v := .tuple #[.agg #[.int .i64 y, .int .i64 ((k : Int) + 1), .int .i64 (q - S + 1)], .bool true]) (by simp [results, Tryd.results16, go_sem, c0, c1, c2]) rfl ⟨⟨y, _, _, rfl, HM.out, HN.out⟩, ?_⟩
          exact ((HB.out.setCell (Nat.le_refl _) _).setCell (Nat.le_refl _) _).setCell (Nat.le_refl _) _
end Go.Proofs.YtniefibdbkdmnaaDoor
