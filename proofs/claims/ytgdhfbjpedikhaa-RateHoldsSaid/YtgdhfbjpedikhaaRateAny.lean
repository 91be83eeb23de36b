/- The contracts of rate.Month and rate.Left with any arguments. -/
import Derived.Test.YtgdhfbjpedikhaaRateLevel
namespace Go.Proofs.Ytgdhfbjpedikhaa
open Go Go.RowKit
set_option linter.unusedVariables false

instance (b r p n : Int) : Decidable (leftMay b r p n) := by unfold leftMay; infer_instance

def monV (b r : Int) : Int := if mayP b r then mon b r else 0
def monE (b r : Int) : Int := if mayP b r then 0 else 1
def leftO (b r p n : Int) : Option Int := lft r p n.toNat b
def leftV (b r p n : Int) : Int := if leftMay b r p n then (leftO b r p n).getD 0 else 0
def leftE (b r p n : Int) : Int := if leftMay b r p n then (if (leftO b r p n).isSome then 0 else 3) else 1

theorem month_any (b r v k : Int) (hv : monV b r = v) (hk : monE b r = k) (w : World) :
    Calls Try.prog 14 #[.int .i64 b, .int .i64 r] w fun e w' => e = .returned (.tuple #[.int .i64 v, errv k]) ∧ ∃ n, w' = World.drewN w n := by
  subst hv hk
  unfold monV monE
  by_cases h : mayP b r
  · rw [if_pos h, if_pos h, errv_0]; exact month_yes b r _ h rfl w
  · rw [if_neg h, if_neg h, errv_1]; exact (month_no b r h w).mono fun e w' ⟨he, hw⟩ => ⟨he, 0, hw⟩

theorem left_any (b r p n v k : Int) (hv : leftV b r p n = v) (hk : leftE b r p n = k) (w : World) :
    Calls Try.prog 19 #[.int .i64 b, .int .i64 r, .int .i64 p, .int .i64 n] w fun e w' => e = .returned (.tuple #[.int .i64 v, errv k]) ∧ ∃ n, w' = World.drewN w n := by
  subst hv hk
  unfold leftV leftE
  by_cases h : leftMay b r p n
  · rw [if_pos h, if_pos h]
    cases ho : leftO b r p n with
    | none => exact left_over b r p n h.1 h.2.1 h.2.2.1 h.2.2.2 ho w
    | some x => exact left_yes b r p n x h.1 h.2.1 h.2.2.1 h.2.2.2 ho w
  · rw [if_neg h, if_neg h, errv_1]; exact (left_no b r p n h w).mono fun e w' ⟨he, hw⟩ => ⟨he, 0, hw⟩

theorem leftE_values (b r p n : Int) : leftE b r p n = 0 ∨ leftE b r p n = 1 ∨ leftE b r p n = 3 := by
  unfold leftE; split
  · split <;> simp
  · simp

theorem left_ok {b r p n : Int} (h : leftE b r p n = 0) : leftMay b r p n ∧ leftO b r p n = some (leftV b r p n) := by
  unfold leftE at h
  unfold leftV
  by_cases hm : leftMay b r p n
  · rw [if_pos hm] at h ⊢
    refine ⟨hm, ?_⟩
    cases ho : leftO b r p n with
    | none => rw [ho] at h; simp at h
    | some x => simp
  · rw [if_neg hm] at h; omega

theorem left_some {b r p n x : Int} (hm : leftMay b r p n) (h : leftO b r p n = some x) : leftE b r p n = 0 ∧ leftV b r p n = x := by
  unfold leftE leftV
  rw [if_pos hm, if_pos hm, h]
  exact ⟨rfl, rfl⟩

theorem left_none {b r p n : Int} (hm : leftMay b r p n) (h : leftO b r p n = none) : leftE b r p n = 3 ∧ leftV b r p n = 0 := by
  unfold leftE leftV
  rw [if_pos hm, if_pos hm, h]
  exact ⟨rfl, rfl⟩

theorem left_bad {b r p n : Int} (hm : ¬ leftMay b r p n) : leftE b r p n = 1 ∧ leftV b r p n = 0 := by
  unfold leftE leftV
  rw [if_neg hm, if_neg hm]
  exact ⟨rfl, rfl⟩

theorem mon_more {a b r : Int} (ha : monE a r = 0) (hb : monE b r = 0) (h : a ≤ b) : monV a r ≤ monV b r := by
  unfold monE at ha hb
  unfold monV
  by_cases h1 : mayP a r
  · by_cases h2 : mayP b r
    · rw [if_pos h1, if_pos h2]; exact mon_mono h1.2.2.1 h
    · rw [if_neg h2] at hb; omega
  · rw [if_neg h1] at ha; omega

theorem left_more {b r p q n : Int} (h : leftE b r p n = 0) (hpq : p ≤ q) : leftE b r q n = 0 ∧ leftV b r q n ≤ leftV b r p n := by
  obtain ⟨hm, ho⟩ := left_ok h
  obtain ⟨y, hy, hy'⟩ := lft_mono hm.1.2.2.1 hm.1.2.2.2 hm.2.1 hpq n.toNat hm.1.1 (Int.le_refl b) hm.1.2.1 ho
  obtain ⟨g1, g2⟩ := left_some (x := y) (b := b) (r := r) (p := q) (n := n) ⟨hm.1, by have := hm.2.1; omega, hm.2.2⟩ hy
  exact ⟨g1, by rw [g2]; exact hy'⟩
end Go.Proofs.Ytgdhfbjpedikhaa
