/- The contract of cents.Sum. -/
import Derived.Test.YtcdkgfjjgebcnaaDoorCentsBack
import Derived.Laws.Externs
namespace Go.Proofs.YtcdkgfjjgebcnaaDoor
open Go Go.RowKit
set_option linter.unusedVariables false

/-- the two halves of a sum -/
def Halves (s H L : Int) : Prop := L = s % 18446744073709551616 ∧ H = s / 18446744073709551616 % 18446744073709551616

theorem Halves.bounds {s H L : Int} (h : Halves s H L) : 0 ≤ L ∧ L ≤ 18446744073709551615 ∧ 0 ≤ H ∧ H ≤ 18446744073709551615 := by
  obtain ⟨rfl, rfl⟩ := h
  omega

def sb (x : Int) : Int := if x < 0 then 18446744073709551615 else 0

theorem Halves.step {s H L x : Int} (h : Halves s H L) (hx : -9223372036854775808 ≤ x ∧ x ≤ 9223372036854775807) :
    Halves (s + x) ((H + sb x + (L + IntKind.u64.wrap x + 0) / 18446744073709551616) % 18446744073709551616) ((L + IntKind.u64.wrap x + 0) % 18446744073709551616) := by
  obtain ⟨rfl, rfl⟩ := h
  rw [wrapU]
  unfold Halves sb
  by_cases c : x < 0
  · rw [if_pos c]; constructor <;> omega
  · rw [if_neg c]; constructor <;> omega

theorem Halves.test {s H L : Int} (h : Halves s H L) (hs : -85070591730234615865843651857942052864 ≤ s ∧ s ≤ 85070591730234615865843651857942052864) :
    (H = sb (wrap64 L) ↔ (-9223372036854775808 ≤ s ∧ s ≤ 9223372036854775807)) ∧ ((-9223372036854775808 ≤ s ∧ s ≤ 9223372036854775807) → wrap64 L = s) := by
  obtain ⟨rfl, rfl⟩ := h
  unfold sb wrap64
  constructor
  · constructor
    · intro h; split at h <;> omega
    · intro h; split <;> omega
  · intro h; omega

theorem add64_run (x y c : Int) (hx : 0 ≤ x) (hy : 0 ≤ y) (hc0 : 0 ≤ c) (hc : c ≤ 1) (w : World) :
    (callFunc 68 #[.int .u64 x, .int .u64 y, .int .u64 c]).run Tryd.prog w =
      .ok (.value (.tuple #[.int .u64 ((x + y + c) % 18446744073709551616), .int .u64 ((x + y + c) / 18446744073709551616)])) w := by
  rw [run_callFunc_extern Tryd.func68 (by kernel_rfl) (by kernel_rfl) (by kernel_rfl) (e := add64Entry) (by kernel_rfl), run_add64 x y c hx hy hc0 hc]
  rfl

theorem signBits_any (x : Int) (hx : -9223372036854775808 ≤ x ∧ x ≤ 9223372036854775807) (w : World) :
    Calls Tryd.prog 69 #[.int .i64 x] w fun e w' => e = .returned (.int .u64 (sb x)) ∧ w' = w := by
  have e : IntKind.u64.wrap (x / 9223372036854775808) = sb x := by
    rw [wrapU]; unfold sb; split <;> omega
  go_enter Tryd.func69, Tryd.ntmps69
  go_wp2
  go_ret
  exact ⟨rfl, rfl⟩

set_option maxHeartbeats 1000000 in
theorem sum_walk (b off len cap : Nat) (zs : List Int) (w : World) (hz : zs.length = len) (hlen : len ≤ 9223372036854775807) (hpos : 0 < len)
    (hb : Hid (∀ n ∈ zs, -9223372036854775808 ≤ n ∧ n ≤ 9223372036854775807))
    (hc : Hid (∀ j, j < len → w.cell? ⟨b, off + j, none⟩ = some (.int .i64 (zs.getD j 0)))) :
    Calls Tryd.prog 52 #[.slice (some ⟨b, off, none⟩) len cap] w fun e w' => e = .returned (.tuple #[.int .i64 (ovV (sumI zs)), errv (ovE (sumI zs))]) ∧ w' = w := by
  have HZ := Lib.hid hz
  clear hz
  go_enter Tryd.func52, Tryd.ntmps52
  go_wp2_with fail
  go_loop [4, 5, 11] (fun h l i => ∃ (k : Nat) (H L : Int), k ≤ len ∧ i = .int .i64 k ∧ h = .int .u64 H ∧ l = .int .u64 L ∧ Halves (sumI (zs.take k)) H L) (fun _ _ i => len - (RowKit.intOf i).toNat)
  case atStart => exact ⟨0, 0, 0, Nat.zero_le _, rfl, rfl, rfl, by simp [sumI, Halves]⟩
  case round =>
    obtain ⟨k, H, L, hk, rfl, rfl, rfl, hinv⟩ := hrel
    obtain ⟨b1, b2, b3, b4⟩ := hinv.bounds
    by_cases hlt : k < len
    · obtain ⟨x, hx⟩ : ∃ x, zs.getD k 0 = x := ⟨_, rfl⟩
      have hcell := hc.out k hlt
      rw [hx] at hcell
      have hxb : -9223372036854775808 ≤ x ∧ x ≤ 9223372036854775807 := by
        rw [← hx, List.getD_eq_getElem?_getD, List.getElem?_eq_getElem (by rw [HZ.out]; exact hlt)]
        exact hb.out _ (List.getElem_mem _)
      have hst := hinv.step hxb
      rw [← hx, ← sumI_take zs k (by rw [HZ.out]; exact hlt), hx] at hst
      have hw0 : 0 ≤ IntKind.u64.wrap x ∧ IntKind.u64.wrap x ≤ 18446744073709551615 := by rw [wrapU]; omega
      have hs0 : 0 ≤ sb x ∧ sb x ≤ 18446744073709551615 := by unfold sb; split <;> omega
      have A1 := fun w => add64_run L (IntKind.u64.wrap x) 0 b1 hw0.1 (by omega) (by omega) w
      obtain ⟨c, hcd⟩ : ∃ c, (L + IntKind.u64.wrap x + 0) / 18446744073709551616 = c := ⟨_, rfl⟩
      have hc01 : 0 ≤ c ∧ c ≤ 1 := by omega
      have A2 := fun w => add64_run H (sb x) c b3 hs0.1 hc01.1 hc01.2 w
      rw [hcd] at hst
      simp only [hcd] at A1
      generalize (L + IntKind.u64.wrap x + 0) % 18446744073709551616 = L' at *
      generalize (H + sb x + c) % 18446744073709551616 = H' at *
      generalize (H + sb x + c) / 18446744073709551616 = c' at *
      clear hinv hx hcd hs0
      go_wp2_with (go_at_call 69; refine (signBits_any _ hxb _).mono ?_; rintro e w' ⟨rfl, rfl⟩)
      go_round
      case rel => exact ⟨k + 1, H', L', by omega, by go_num, rfl, rfl, hst⟩
      case measure => simp [RowKit.intOf]; omega
    · have hk' : k = len := by omega
      subst hk'
      have hbd := sumI_bound zs hb.out
      rw [HZ.out] at hbd
      rw [List.take_of_length_le (by rw [HZ.out]; exact Nat.le_refl _)] at hinv
      obtain ⟨t1, t2⟩ := hinv.test (by omega)
      obtain ⟨s, hs⟩ : ∃ s, sumI zs = s := ⟨_, rfl⟩
      rw [hs] at t1 t2
      have HS := Lib.hid hs
      clear hinv hbd hs
      by_cases hin : -9223372036854775808 ≤ s ∧ s ≤ 9223372036854775807
      · have c1 := t1.2 hin
        have c2 := t2 hin
        have e1 : ovV s = s := (ov_in hin).1
        have e2 : ovE s = 0 := (ov_in hin).2
        have E1 := Lib.hid e1
        have E2 := Lib.hid e2
        have c3 : (H != sb s) = false := by rw [c2] at c1; simpa using c1
        clear e1 e2 t1 t2 c1
        go_wp2_with (go_at_call 69; refine (signBits_any _ hin _).mono ?_; rintro e w' ⟨rfl, rfl⟩)
        go_ret2
        exact ⟨by rw [HS.out, E1.out, E2.out, ← c2]; rfl, rfl⟩
      · have c3 : (H != sb (wrap64 L)) = true := by simpa using fun h => hin (t1.1 h)
        have hw : -9223372036854775808 ≤ wrap64 L ∧ wrap64 L ≤ 9223372036854775807 := by unfold wrap64; omega
        have E1 := Lib.hid (ov_out hin).1
        have E2 := Lib.hid (ov_out hin).2
        clear t1 t2
        go_wp2_with (go_at_call 69; refine (signBits_any _ hw _).mono ?_; rintro e w' ⟨rfl, rfl⟩)
        go_ret2
        exact ⟨by rw [HS.out, E1.out, E2.out]; rfl, rfl⟩

theorem sum_empty (a : Option Addr) (cap : Nat) (w : World) :
    Calls Tryd.prog 52 #[.slice a 0 cap] w fun e w' => e = .returned (.tuple #[.int .i64 0, .nilIface]) ∧ w' = w := by
  have c3 : sb 0 = 0 := rfl
  go_enter Tryd.func52, Tryd.ntmps52
  go_wp2_with fail
  go_loop [4, 5, 11] (fun h l i => i = .int .i64 0 ∧ h = .int .u64 0 ∧ l = .int .u64 0) (fun _ _ _ => 0)
  case atStart => exact ⟨rfl, rfl, rfl⟩
  case round =>
    obtain ⟨rfl, rfl, rfl⟩ := hrel
    go_wp2_with (go_at_call 69; refine (signBits_any _ (by omega) _).mono ?_; rintro e w' ⟨rfl, rfl⟩)
    go_ret2
    exact ⟨rfl, rfl⟩

/-- the contract -/
theorem sum_any (a : Option Addr) (len cap : Nat) (zs : List Int) (w : World) (hlen : len ≤ 9223372036854775807) (h : Elems w a len zs) :
    Calls Tryd.prog 52 #[.slice a len cap] w fun e w' => e = .returned (.tuple #[.int .i64 (ovV (sumI zs)), errv (ovE (sumI zs))]) ∧ w' = w := by
  obtain ⟨hz, hb, h0⟩ := h
  by_cases hl : len = 0
  · subst hl
    have : zs = [] := List.eq_nil_of_length_eq_zero hz
    subst this
    exact sum_empty a cap w
  · rcases h0 with h0 | ⟨b, off, rfl, hc⟩
    · exact absurd h0 hl
    · exact sum_walk b off len cap zs w hz hlen (by omega) (Lib.hid hb) (Lib.hid hc)
end Go.Proofs.YtcdkgfjjgebcnaaDoor
