/- Rows of rows of bytes. -/
import Derived.Test.YtehfbafocbcfnaaJrnRef1
namespace Go.Proofs.Ytehfbafocbcfnaa
open Go Go.RowKit
set_option linter.unusedVariables false

/-- records, to be read -/
def RowsOf (w : World) (a : Option Addr) (n : Nat) (rs : List (List Nat)) : Prop :=
  rs.length = n ∧ (n = 0 ∨ ∃ b off, a = some ⟨b, off, none⟩ ∧ ∀ j, j < n → ∃ aj cj, w.cell? ⟨b, off + j, none⟩ = some (.slice aj (rs.getD j []).length cj) ∧ Cells w aj (rs.getD j []).length ((rs.getD j []).map b8))
def Byts (rs : List (List Nat)) : Prop := ∀ r ∈ rs, ∀ x ∈ r, x < 256
theorem Byts.at' {rs : List (List Nat)} (h : Byts rs) (j : Nat) : ∀ x ∈ rs.getD j [], x < 256 := by
  intro x hx
  by_cases hj : j < rs.length
  · exact h _ (by simp [List.getD, hj]) x hx
  · simp [List.getD, Nat.le_of_not_lt hj] at hx
theorem Byts.snoc {rs : List (List Nat)} {b : List Nat} (h : Byts rs) (hb : ∀ x ∈ b, x < 256) : Byts (rs ++ [b]) := fun r hr => by
  rcases List.mem_append.1 hr with h1 | h1
  · exact h r h1
  · rw [List.mem_singleton.1 h1]; exact hb
theorem byts_nil : Byts [] := fun _ h => by cases h

theorem RowsOf.up {w W : World} {a : Option Addr} {n : Nat} {rs : List (List Nat)} (h : RowsOf w a n rs) (hb : Below w.heap.size w W) : RowsOf W a n rs := by
  refine ⟨h.1, h.2.imp id ?_⟩
  rintro ⟨b, off, rfl, hc⟩
  refine ⟨b, off, rfl, fun j hj => ?_⟩
  obtain ⟨aj, cj, h1, h2⟩ := hc j hj
  exact ⟨aj, cj, by rw [hb.cell (p := ⟨b, off + j, none⟩) (cell_lt h1)]; exact h1, h2.upB hb⟩

theorem list_step {rs ss : List (List Nat)} {j : Nat} (h : rs.take j = ss.take j) (hr : j < rs.length) (hs : j < ss.length) (he : rs.getD j [] = ss.getD j []) : rs.take (j + 1) = ss.take (j + 1) := by
  rw [List.take_add_one, List.take_add_one, h]
  simp [List.getD, hr, hs] at he
  simp [hr, hs, he]

set_option maxHeartbeats 4000000 in
theorem refSame8_any (a a' : Option Addr) (n c n' c' : Nat) (rs ss : List (List Nat)) (w : World) (h : RowsOf w a n rs) (h' : RowsOf w a' n' ss) (hb : Byts rs) (hb' : Byts ss) (hn : n ≤ 1000000) (hn' : n' ≤ maxLen) :
    Calls Try.prog 23 #[.slice a n c, .slice a' n' c'] w fun e w' => e = .returned (.bool (decide (rs = ss))) ∧ ∃ q, w' = w.drewN q := by
  have hm : (n' : Int) ≤ 9223372036854775807 := by unfold maxLen at hn'; omega
  obtain ⟨r, hr⟩ : ∃ r, decide (rs = ss) = r := ⟨_, rfl⟩
  rw [hr]
  have HR := Lib.hid hr
  have H := Lib.hid h
  have H' := Lib.hid h'
  have HB := Lib.hid hb
  have HB' := Lib.hid hb'
  clear h h' hr hb hb' hn'
  go_enter Try.func23, Try.ntmps23
  by_cases hne : n = n'
  · subst hne
    go_wp2_with fail
    go_loopw [5] (fun i wr => ∃ (j q : Nat), j ≤ n ∧ i = .int .i64 (j : Int) ∧ wr = w.drewN q ∧ Hid (rs.take j = ss.take j)) (fun i _ => n - (RowKit.intOf i).toNat)
    case atStart => exact ⟨0, 0, by omega, rfl, rfl, rfl⟩
    case round =>
      obtain ⟨j, q, hj, rfl, rfl, ht⟩ := hrel
      by_cases hlt : j < n
      · obtain ⟨b, off, rfl, hc⟩ := H.out.2.resolve_left (by omega)
        obtain ⟨b', off', rfl, hc'⟩ := H'.out.2.resolve_left (by omega)
        obtain ⟨aj, cj, hcell, hcells⟩ := hc j hlt
        obtain ⟨aj', cj', hcell', hcells'⟩ := hc' j hlt
        have hb1 := HB.out.at' j
        have hb2 := HB'.out.at' j
        have hl1 := H.out.1
        have hl2 := H'.out.1
        obtain ⟨x, hx⟩ : ∃ x, rs.getD j [] = x := ⟨_, rfl⟩
        obtain ⟨y, hy⟩ : ∃ y, ss.getD j [] = y := ⟨_, rfl⟩
        rw [hx] at hcell hcells hb1
        rw [hy] at hcell' hcells' hb2
        have HX := Lib.hid (And.intro hx hy)
        have HT1 : Hid (∀ W', Below w.heap.size w W' → (convert 27 9 (.slice aj x.length cj)).run Try.prog W' = .ok (.string (strB x)) W') := fun W' h => run_str_row (hcells.upB h)
        have HT2 : Hid (∀ W', Below w.heap.size w W' → (convert 27 9 (.slice aj' y.length cj')).run Try.prog W' = .ok (.string (strB y)) W') := fun W' h => run_str_row (hcells'.upB h)
        have HC1 : Hid (∀ W', Below w.heap.size w W' → W'.cell? ⟨b, off + j, none⟩ = some (.slice aj x.length cj)) := fun W' h => by rw [h.cell (p := ⟨b, off + j, none⟩) (cell_lt hcell)]; exact hcell
        have HC2 : Hid (∀ W', Below w.heap.size w W' → W'.cell? ⟨b', off' + j, none⟩ = some (.slice aj' y.length cj')) := fun W' h => by rw [h.cell (p := ⟨b', off' + j, none⟩) (cell_lt hcell')]; exact hcell'
        have HW : Hid (Below w.heap.size w (w.drewN q).drew) := below_drewN (below_drewN (Below.refl _ _) q) 1
        have t6 : (j : Int) < (n : Int) := by omega
        have t7 : (0 : Int) ≤ (j : Int) := by omega
        have s9 : IntKind.i64.wrap ((j : Int) + 1) = (j : Int) + 1 := IntWalk.i64_in _ (by omega)
        clear hx hy hc hc' hcell hcells hcell' hcells'
        by_cases hxy : x = y
        · have hst : ((strB x).toList == (strB y).toList) = true := by rw [hxy]; exact strB_same _
          have HXY := Lib.hid hxy
          clear hxy
          go_wp2_with fail
          go_region_held3 (fun w' => (convert 27 9 (.slice aj x.length cj)).run Try.prog w' = .ok (.string (strB x)) w' ∧ (convert 27 9 (.slice aj' y.length cj')).run Try.prog w' = .ok (.string (strB y)) w' ∧
              w'.cell? ⟨b, off + j, none⟩ = some (.slice aj x.length cj) ∧ w'.cell? ⟨b', off' + j, none⟩ = some (.slice aj' y.length cj'))
            (first | exact ⟨HT1.out _ HW.out, HT2.out _ HW.out, HC1.out _ HW.out, HC2.out _ HW.out⟩ | assumption)
            (fail)
          go_wp2_with fail
          go_roundw
          case rel => exact ⟨j + 1, q + 1, by omega, by go_num, by first | rfl | exact World.drewN_drewN _ _ _, list_step ht.out (by omega) (by omega) (by rw [HX.out.1, HX.out.2, HXY.out])⟩
          case measure => simp [RowKit.intOf]; omega
        · have hst : ((strB x).toList == (strB y).toList) = false := strB_other hb1 hb2 hxy
          have hrf : Hid (r = false) := by
            show r = false
            rw [← HR.out, decide_eq_false_iff_not]
            intro h
            exact hxy (by rw [← HX.out.1, ← HX.out.2, h])
          clear hxy
          go_wp2_with fail
          go_region_held3 (fun w' => (convert 27 9 (.slice aj x.length cj)).run Try.prog w' = .ok (.string (strB x)) w' ∧ (convert 27 9 (.slice aj' y.length cj')).run Try.prog w' = .ok (.string (strB y)) w' ∧
              w'.cell? ⟨b, off + j, none⟩ = some (.slice aj x.length cj) ∧ w'.cell? ⟨b', off' + j, none⟩ = some (.slice aj' y.length cj'))
            (first | exact ⟨HT1.out _ HW.out, HT2.out _ HW.out, HC1.out _ HW.out, HC2.out _ HW.out⟩ | assumption)
            (fail)
          go_wp2_with fail
          go_ret
          exact ⟨by rw [hrf.out]; first | rfl | simp, q + 1, by first | rfl | exact World.drewN_drewN _ _ _⟩
      · obtain rfl : j = n := by omega
        have hrt : Hid (r = true) := by
          show r = true
          rw [← HR.out, decide_eq_true_eq]
          have := ht.out
          rwa [List.take_of_length_le (by rw [H.out.1]; omega), List.take_of_length_le (by rw [H'.out.1]; omega)] at this
        go_wp2_with fail
        go_ret
        exact ⟨by rw [hrt.out]; first | rfl | simp, q, rfl⟩
  · have hrf : Hid (r = false) := by
      show r = false
      rw [← HR.out, decide_eq_false_iff_not]
      intro h
      exact hne (by rw [← H.out.1, ← H'.out.1, h])
    have t1 : ¬ (n : Int) = (n' : Int) := by omega
    go_wp2_with fail
    go_ret
    exact ⟨by rw [hrf.out]; first | rfl | simp, 0, rfl⟩
end Go.Proofs.Ytehfbafocbcfnaa
