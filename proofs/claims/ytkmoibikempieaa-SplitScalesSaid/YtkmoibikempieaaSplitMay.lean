/- The contract of the document's May of layer 3. -/
import Derived.Test.YtkmoibikempieaaSplitC
namespace Go.Proofs.Ytkmoibikempieaa
open Go Go.RowKit
set_option linter.unusedVariables false

theorem may_wgt {T : Int} {zs : List Int} : mayS T zs ↔ (0 ≤ T ∧ T ≤ 10000000000000) ∧ (1 ≤ zs.length ∧ zs.length ≤ 480) ∧ (∀ j, j < zs.length → 0 ≤ wgt zs j ∧ wgt zs j ≤ 10000000000000) ∧ ∃ j, j < zs.length ∧ 0 < wgt zs j := by
  constructor
  · intro h
    refine ⟨h.1, h.2.1, fun j _ => mayS_wgt h j, ?_⟩
    obtain ⟨z, hz, hp⟩ := h.2.2.2
    obtain ⟨k, hk, rfl⟩ := List.getElem_of_mem hz
    exact ⟨k, hk, by simpa [wgt, List.getD, hk] using hp⟩
  · rintro ⟨h1, h2, h3, j, hj, hp⟩
    refine ⟨h1, h2, fun z hz => ?_, wgt zs j, ?_, hp⟩
    · obtain ⟨k, hk, rfl⟩ := List.getElem_of_mem hz
      have := h3 k hk
      simpa [wgt, List.getD, hk] using this
    · have : wgt zs j = zs[j] := by simp [wgt, List.getD, hj]
      rw [this]; exact List.getElem_mem _

set_option maxHeartbeats 2000000 in
theorem refMay3_any (T : Int) (a : Option Addr) (len cap : Nat) (zs : List Int) (r : Bool) (w : World) (h : Elems w a len zs) (hl : len ≤ 1000) (hr : r = true ↔ mayS T zs) :
    Calls Try.prog 11 #[.int .i64 T, .slice a len cap] w fun e w' => e = .returned (.bool r) ∧ w' = w := by
  have hz : zs.length = len := h.1
  rw [may_wgt, hz] at hr
  have HR := Lib.hid hr
  have HE := Lib.hid h
  clear hr h
  by_cases hc : (0 ≤ T ∧ T ≤ 10000000000000) ∧ (1 ≤ len ∧ len ≤ 480)
  · obtain ⟨⟨t0, t1⟩, l0, l1⟩ := hc
    have t2 : ((len : Int) == 0) = false := by simp; omega
    have t3 : ¬ (480 : Int) < (len : Int) := by omega
    go_enter Try.func11, Try.ntmps11
    go_wp2_with fail
    go_loop [5, 6] (fun s i => ∃ (k : Nat) (b : Bool), k ≤ len ∧ i = .int .i64 k ∧ s = .bool b ∧ Hid (b = true ↔ ∃ j, j < k ∧ 0 < wgt zs j) ∧ Hid (∀ j, j < k → 0 ≤ wgt zs j ∧ wgt zs j ≤ 10000000000000)) (fun _ i => len - (RowKit.intOf i).toNat)
    case atStart => exact ⟨0, false, Nat.zero_le _, rfl, rfl, ⟨(fun h => by cases h), fun ⟨j, hj, _⟩ => absurd hj (Nat.not_lt_zero _)⟩, fun j hj => absurd hj (Nat.not_lt_zero _)⟩
    case round =>
      obtain ⟨k, b, hk, rfl, rfl, hb, hin⟩ := hrel
      by_cases hlt : k < len
      · rcases HE.out.2.2 with h0 | ⟨x, o, rfl, hc⟩
        · omega
        have k0 : (0 : Int) ≤ (k : Int) := by omega
        have k1 : (k : Int) < (len : Int) := by omega
        have z1 := hc k hlt
        obtain ⟨z, hzz⟩ : ∃ z, wgt zs k = z := ⟨_, rfl⟩
        have hz2 : zs.getD k 0 = z := hzz
        rw [hz2] at z1
        have HZ := Lib.hid hzz
        clear hzz hz2 hc
        by_cases h1 : z < 0
        · have : r = false := by
            cases r with
            | false => rfl
            | true => have := (HR.out.1 rfl).2.2.1 k hlt; rw [HZ.out] at this; omega
          subst this
          go_wp2_with fail
          go_ret
          exact ⟨rfl, rfl⟩
        · by_cases h2 : 10000000000000 < z
          · have : r = false := by
              cases r with
              | false => rfl
              | true => have := (HR.out.1 rfl).2.2.1 k hlt; rw [HZ.out] at this; omega
            subst this
            go_wp2_with fail
            go_ret
            exact ⟨rfl, rfl⟩
          · have hin' : Hid (∀ j, j < k + 1 → 0 ≤ wgt zs j ∧ wgt zs j ≤ 10000000000000) := fun j hj => by
              by_cases e : j = k
              · subst e; rw [HZ.out]; omega
              · exact hin.out j (by omega)
            cases b with
            | true =>
              have hb' : Hid (true = true ↔ ∃ j, j < k + 1 ∧ 0 < wgt zs j) := ⟨fun _ => by obtain ⟨j, hj, hp⟩ := hb.out.1 rfl; exact ⟨j, by omega, hp⟩, fun _ => rfl⟩
              go_wp2_with fail
              go_round
              case rel => exact ⟨k + 1, true, by omega, by go_num, rfl, hb', hin'⟩
              case measure => simp [RowKit.intOf]; omega
            | false =>
              by_cases h3 : 0 < z
              · have hb' : Hid (true = true ↔ ∃ j, j < k + 1 ∧ 0 < wgt zs j) := ⟨fun _ => ⟨k, by omega, by rw [HZ.out]; exact h3⟩, fun _ => rfl⟩
                go_wp2_with fail
                go_round
                case rel => exact ⟨k + 1, true, by omega, by go_num, rfl, hb', hin'⟩
                case measure => simp [RowKit.intOf]; omega
              · have hb' : Hid (false = true ↔ ∃ j, j < k + 1 ∧ 0 < wgt zs j) := ⟨(fun h => by cases h), fun ⟨j, hj, hp⟩ => by
                  by_cases e : j = k
                  · subst e; rw [HZ.out] at hp; exact absurd hp h3
                  · exact hb.out.2 ⟨j, by omega, hp⟩⟩
                go_wp2_with fail
                go_round
                case rel => exact ⟨k + 1, false, by omega, by go_num, rfl, hb', hin'⟩
                case measure => simp [RowKit.intOf]; omega
      · obtain rfl : k = len := by omega
        have : b = r := by
          rw [Bool.eq_iff_iff, hb.out, HR.out]
          exact ⟨fun h => ⟨⟨t0, t1⟩, ⟨l0, l1⟩, hin.out, h⟩, fun h => h.2.2.2⟩
        subst this
        go_wp2_with fail
        go_ret
        exact ⟨rfl, rfl⟩
  · have hrf : r = false := by
      cases r with
      | false => rfl
      | true => have := HR.out.1 rfl; exact absurd ⟨this.1, this.2.1⟩ hc
    subst hrf
    have hc' : T < 0 ∨ (0 ≤ T ∧ 10000000000000 < T) ∨ (0 ≤ T ∧ T ≤ 10000000000000 ∧ len = 0) ∨ (0 ≤ T ∧ T ≤ 10000000000000 ∧ 1 ≤ len ∧ 480 < len) := by omega
    clear hc
    rcases hc' with h1 | ⟨h1, h2⟩ | ⟨h1, h2, h3⟩ | ⟨h1, h2, h3, h4⟩
    · go_enter Try.func11, Try.ntmps11
      go_wp2_with fail
      go_ret
      exact ⟨rfl, rfl⟩
    · go_enter Try.func11, Try.ntmps11
      go_wp2_with fail
      go_ret
      exact ⟨rfl, rfl⟩
    · subst h3
      go_enter Try.func11, Try.ntmps11
      go_wp2_with fail
      go_ret
      exact ⟨rfl, rfl⟩
    · have t2 : ((len : Int) == 0) = false := by simp; omega
      have t3 : (480 : Int) < (len : Int) := by omega
      go_enter Try.func11, Try.ntmps11
      go_wp2_with fail
      go_ret
      exact ⟨rfl, rfl⟩
end Go.Proofs.Ytkmoibikempieaa
