/- What is asked of package count's calls; the examples at the head of layer 5's statements. -/
import Derived.Test.YtpddnmkoiplmkaaDoorBoxes
import Derived.Test.YtpddnmkoiplmkaaDoorCountNum
namespace Go.Proofs.YtpddnmkoiplmkaaDoor
open Go Go.RowKit
set_option linter.unusedVariables false

/-- what Between tells: of two dates the days between, else that one is none -/
def BtwIs (mo : Bool) (ya ma da yb mb db k v : Int) : Prop :=
  (k = 0 ∧ mayD ya ma da ∧ mayD yb mb db ∧ v = btw mo ya ma da yb mb db) ∨ (k = 2 ∧ ¬ (mayD ya ma da ∧ mayD yb mb db) ∧ v = 0)
def AccIs (b r d : Int) (mo : Bool) (k v : Int) : Prop := (k = 0 ∧ mayA b r d ∧ v = accI b r d mo) ∨ (k = 1 ∧ ¬ mayA b r d ∧ v = 0)

/-- the contracts of package count -/
structure CountC : Prop where
  between : ∀ (ya ma da yb mb db : Int) (mo : Bool) (w : World), Mon w → Calls Tryd.prog 8 #[.agg #[.int .i64 ya, .int .i64 ma, .int .i64 da], .agg #[.int .i64 yb, .int .i64 mb, .int .i64 db], .bool mo] w
    fun e w' => Below w.heap.size w w' ∧ ∃ k v, BtwIs mo ya ma da yb mb db k v ∧ e = .returned (.tuple #[.int .i64 v, errv k])
  accrue : ∀ (b r d : Int) (mo : Bool) (w : World), Calls Tryd.prog 12 #[.int .i64 b, .int .i64 r, .int .i64 d, .bool mo] w
    fun e w' => (∃ n, w' = World.drewN w n) ∧ ∃ k v, AccIs b r d mo k v ∧ e = .returned (.tuple #[.int .i64 v, errv k])

theorem btw_up {k v : Int} (h : BtwIs true 2024 1 31 2024 2 29 k v) : k = 0 ∧ v = 29 := by
  rcases h with ⟨rfl, _, _, rfl⟩ | ⟨_, h, _⟩
  · exact ⟨rfl, by decide⟩
  · exact absurd ⟨by decide, by decide⟩ h
theorem acc_up {k v : Int} (h : AccIs 36500000 10000 1 false k v) : k = 0 ∧ v = 1000 := by
  rcases h with ⟨rfl, _, rfl⟩ | ⟨_, h, _⟩
  · exact ⟨rfl, by decide +kernel⟩
  · exact absurd (by decide) h

set_option maxHeartbeats 1000000 in
theorem up05_any (CC : Hid CountC) (w : World) (T : Mon w) : Calls Tryd.prog 7 #[] w fun e w' => e = .returned (.bool true) ∧ Below w.heap.size w w' := by
  have HB := Lib.hid (Base.refl T)
  have rb := build_date
  clear T
  go_enter Tryd.func7, Tryd.ntmps7
  go_wp2_with fail
  refine (CC.out.between 2024 1 31 2024 2 29 true _ HB.out.mon).mono ?_
  rintro e w1 ⟨hb1, k, v, hk, rfl⟩
  obtain ⟨rfl, rfl⟩ := btw_up hk
  rw [errv_0]
  have HB1 := Lib.hid (HB.out.call hb1)
  clear hb1 HB hk
  go_wp2_with fail
  refine (CC.out.accrue 36500000 10000 1 false _).mono ?_
  rintro e w2 ⟨⟨n, rfl⟩, k, v, hk, rfl⟩
  obtain ⟨rfl, rfl⟩ := acc_up hk
  rw [errv_0]
  have HB2 := Lib.hid (HB1.out.drewN n)
  clear HB1 hk
  go_wp2_with fail
  go_ret
  exact ⟨rfl, HB2.out.below⟩
end Go.Proofs.YtpddnmkoiplmkaaDoor
