/- The walk of CountMonth: 30 days by months are a month; of no days it is nothing; of more days it is no less. -/
import Derived.Test.YtpddnmkoiplmkaaDoorCountC
import Derived.Test.YtpddnmkoiplmkaaDoorRateM
namespace Go.Proofs.YtpddnmkoiplmkaaDoor
open Go Go.RowKit
set_option linter.unusedVariables false

theorem acc_30 {b r k v : Int} (h : AccIs b r 30 true k v) : k = monE b r ∧ v = monV b r := by
  unfold monE monV
  have e : mayA b r 30 ↔ mayP b r := ⟨fun h => ⟨h.1, h.2.1, h.2.2.1, h.2.2.2.1⟩, fun h => ⟨h.1, h.2.1, h.2.2.1, h.2.2.2, by omega, by omega⟩⟩
  rcases h with ⟨rfl, h, rfl⟩ | ⟨rfl, h, rfl⟩
  · rw [if_pos (e.1 h), if_pos (e.1 h), acc_month]; exact ⟨rfl, rfl⟩
  · rw [if_neg (fun h' => h (e.2 h')), if_neg (fun h' => h (e.2 h'))]; exact ⟨rfl, rfl⟩

theorem monE_values (b r : Int) : monE b r = 0 ∨ monE b r = 1 := by unfold monE; split <;> simp

/-- what the last three tell -/
theorem acc_last {b r d d2 : Int} {mo : Bool} {k1 v1 k2 v2 k3 v3 : Int} (h1 : AccIs b r d mo k1 v1) (h2 : AccIs b r d2 mo k2 v2) (h3 : AccIs b r 0 mo k3 v3) :
    ((k1 != 0) = true) ∨ ((k1 != 0) = false ∧ (k2 != 0) = true) ∨ ((k1 != 0) = false ∧ (k2 != 0) = false ∧ (k3 != 0) = false ∧ v3 = 0 ∧ (d2 < d ∨ (d ≤ d2 ∧ v1 ≤ v2))) := by
  rcases h1 with ⟨rfl, a1, rfl⟩ | ⟨rfl, a1, rfl⟩
  · rcases h2 with ⟨rfl, a2, rfl⟩ | ⟨rfl, a2, rfl⟩
    · rcases h3 with ⟨rfl, a3, rfl⟩ | ⟨rfl, a3, rfl⟩
      · refine Or.inr (Or.inr ⟨rfl, rfl, rfl, acc_zero b r mo, ?_⟩)
        by_cases c : d2 < d
        · exact Or.inl c
        · exact Or.inr ⟨by omega, acc_mono mo a1.1 a1.2.2.1 (by omega)⟩
      · exact absurd ⟨a1.1, a1.2.1, a1.2.2.1, a1.2.2.2.1, by omega, by omega⟩ a3
    · exact Or.inr (Or.inl ⟨rfl, rfl⟩)
  · exact Or.inl rfl

set_option maxHeartbeats 2000000 in
theorem countMonth_walk (CC : Hid CountC) (b r d d2 : Int) (mo : Bool) (w : World) (T : Mon w) :
    Calls Tryd.prog 6 #[.int .i64 b, .int .i64 r, .int .i64 d, .int .i64 d2, .bool mo] w fun e w' => e = .returned (.bool true) ∧ Below w.heap.size w w' := by
  have HB := Lib.hid (Base.refl T)
  have qn := fun (w : World) (k : Int) => run_neq_errv_nil w k
  have qe := fun (w : World) (k : Int) => run_eql_errv_nil w k
  have gn := guard_neq_errv_nil
  have ge := guard_eql_errv_nil
  obtain ⟨m, hm⟩ : ∃ m, monV b r = m := ⟨_, rfl⟩
  obtain ⟨k, hk⟩ : ∃ k, monE b r = k := ⟨_, rfl⟩
  have HM := Lib.hid hm
  have HK := Lib.hid hk
  have tm : (m != m) = false := by simp
  have hkv := monE_values b r
  rw [hk] at hkv
  clear T hm hk
  go_enter Tryd.func6, Tryd.ntmps6
  go_wp2_with fail
  refine (up05_any CC _ HB.out.mon).mono ?_
  rintro e w1 ⟨rfl, hb1⟩
  have HB1 := Lib.hid (HB.out.call hb1)
  clear hb1 HB
  go_wp2_with fail
  refine (month_any b r m k HM.out HK.out _).mono ?_
  rintro e w2 ⟨rfl, n2, hw⟩
  have HB2 := Lib.hid (HB1.out.drewN n2)
  rw [← hw] at HB2
  clear hw HB1
  go_wp2_with fail
  refine (CC.out.accrue b r 30 true _).mono ?_
  rintro e w3 ⟨⟨n3, hw⟩, k3, v3, h3, rfl⟩
  obtain ⟨rfl, rfl⟩ := acc_30 h3
  rw [HM.out, HK.out]
  have HB3 := Lib.hid (HB2.out.drewN n3)
  rw [← hw] at HB3
  clear hw HB2 h3
  rcases hkv with rfl | rfl
  all_goals
    try rw [errv_0]
    try rw [errv_1]
    go_wp2_with fail
    go_quiet (fail)
    have HB3 := Lib.hid (HB3.out.drewN nq)
    go_wp2_with fail
    refine (CC.out.accrue b r d mo _).mono ?_
    rintro e w4 ⟨⟨n4, hw⟩, k4, v4, h4, rfl⟩
    have HB4 := Lib.hid (HB3.out.drewN n4)
    rw [← hw] at HB4
    have H4 := Lib.hid h4
    clear hw HB3 h4
    go_wp2_with fail
    refine (CC.out.accrue b r d2 mo _).mono ?_
    rintro e w5 ⟨⟨n5, hw⟩, k5, v5, h5, rfl⟩
    have HB5 := Lib.hid (HB4.out.drewN n5)
    rw [← hw] at HB5
    have H5 := Lib.hid h5
    clear hw HB4 h5
    go_wp2_with fail
    refine (CC.out.accrue b r 0 mo _).mono ?_
    rintro e w6 ⟨⟨n6, hw⟩, k6, v6, h6, rfl⟩
    have HB6 := Lib.hid (HB5.out.drewN n6)
    rw [← hw] at HB6
    have hl := acc_last H4.out H5.out h6
    clear hw HB5 h6 H4 H5
    rcases hl with h | ⟨h, h'⟩ | ⟨h, h', h'', rfl, hc⟩
    · go_wp2_with fail
      go_ret
      exact ⟨rfl, HB6.out.below⟩
    · go_wp2_with fail
      go_ret
      exact ⟨rfl, HB6.out.below⟩
    · rcases hc with hc | ⟨hc, hc'⟩
      · go_wp2_with fail
        go_ret
        exact ⟨by simp, HB6.out.below⟩
      · go_wp2_with fail
        go_ret
        exact ⟨by simp, HB6.out.below⟩
end Go.Proofs.YtpddnmkoiplmkaaDoor
