/- split's mayBe, together, quotient. -/
import Derived.Test.YtkmoibikempieaaDiv
import Derived.Test.YtkmoibikempieaaSplitC
namespace Go.Proofs.Ytkmoibikempieaa
open Go Go.RowKit
set_option linter.unusedVariables false

/-- may it be a total, or a weight? -/
def okS (x : Int) : Prop := 0 ≤ x ∧ x ≤ 10000000000000

theorem mayBe_yes (x : Int) (w : World) (h : okS x) : Calls Try.prog 21 #[.int .i64 x] w fun e w' => e = .returned (.bool true) ∧ w' = w := by
  obtain ⟨h1, h2⟩ := h
  go_enter Try.func21, Try.ntmps21
  go_wp2_with fail
  go_ret
  exact ⟨by simp, rfl⟩

theorem mayBe_no (x : Int) (w : World) (h : ¬ okS x) : Calls Try.prog 21 #[.int .i64 x] w fun e w' => e = .returned (.bool false) ∧ w' = w := by
  by_cases h1 : 0 ≤ x
  · have h2 : ¬ x ≤ 10000000000000 := fun h2 => h ⟨h1, h2⟩
    clear h
    go_enter Try.func21, Try.ntmps21
    go_wp2_with fail
    go_ret
    exact ⟨by simp, rfl⟩
  · clear h
    go_enter Try.func21, Try.ntmps21
    go_wp2_with fail
    go_ret
    exact ⟨rfl, rfl⟩

theorem mul64_at' (A B H L : Nat) (hA : A < 18446744073709551616) (hB : B < 18446744073709551616) (hH : A * B / 18446744073709551616 = H) (hL : A * B % 18446744073709551616 = L) (w : World) :
    Calls Try.prog 31 #[.int .u64 A, .int .u64 B] w fun e w' => e = .returned (.tuple #[.int .u64 (H : Int), .int .u64 (L : Int)]) ∧ w' = w := by
  rw [← hH, ← hL]; exact Try.bits_Mul64 A B hA hB w

theorem div64_at' (H L C : Nat) (Q R : Int) (hL : L < 18446744073709551616) (hC : C < 18446744073709551616) (h : H < C) (hQ : (((H * 18446744073709551616 + L) / C : Nat) : Int) = Q)
    (hR : (((H * 18446744073709551616 + L) % C : Nat) : Int) = R) (w : World) :
    Calls Try.prog 32 #[.int .u64 H, .int .u64 L, .int .u64 C] w fun e w' => e = .returned (.tuple #[.int .u64 Q, .int .u64 R]) ∧ ∃ n, w' = World.drewN w n := by
  rw [← hQ, ← hR]; exact Div.div64 H L C hL hC h w

set_option maxHeartbeats 1000000 in
theorem quotient_nat (T x A : Nat) (Q R : Int) (hT : T ≤ 10000000000000) (hx : x ≤ A) (hA : 0 < A) (hA' : A ≤ 4800000000000000) (hQ : ((T * x / A : Nat) : Int) = Q) (hR : ((T * x % A : Nat) : Int) = R) (hQ' : Q ≤ 10000000000000) (w : World) :
    Calls Try.prog 22 #[.int .i64 T, .int .i64 x, .int .i64 A] w fun e w' => e = .returned (.tuple #[.int .i64 Q, .int .u64 R]) ∧ ∃ n, w' = World.drewN w n := by
  obtain ⟨H, hH⟩ : ∃ q, T * x / 18446744073709551616 = q := ⟨_, rfl⟩
  obtain ⟨L, hL⟩ : ∃ q, T * x % 18446744073709551616 = q := ⟨_, rfl⟩
  have e1 : H * 18446744073709551616 + L = T * x := by rw [← hH, ← hL, Nat.mul_comm]; exact Nat.div_add_mod _ _
  have hL1 : L < 18446744073709551616 := by rw [← hL]; exact Nat.mod_lt _ (by decide)
  have hT2 : T * x ≤ 10000000000000 * A := Nat.mul_le_mul hT hx
  have hH1 : H < A := by omega
  have hQ0 : 0 ≤ Q := by rw [← hQ]; exact Int.natCast_nonneg _
  have hm := fun w => mul64_at' T x H L (by omega) (by omega) hH hL w
  have hd := fun w => div64_at' H L A Q R hL1 (by omega) hH1 (by rw [e1]; exact hQ) (by rw [e1]; exact hR) w
  have z1 : (T : Int) ≤ 10000000000000 := by omega
  have z2 : (x : Int) ≤ 4800000000000000 := by omega
  have z3 : (A : Int) ≤ 4800000000000000 := by omega
  clear hH hL e1 hL1 hT2 hH1 hQ hR hx hA hA' hT
  go_enter Try.func22, Try.ntmps22
  go_wp2_with (first
    | (go_at_call 31; refine Calls.mono (hm _) ?_; rintro e w1 ⟨rfl, rfl⟩)
    | (go_at_call 32; refine Calls.mono (hd _) ?_; rintro e w1 ⟨rfl, n, rfl⟩))
  go_ret2
  exact ⟨rfl, n, rfl⟩

theorem quotient_any (T x A : Int) (hT : okS T) (hx : 0 ≤ x) (hxA : x ≤ A) (hA : 0 < A) (hA' : A ≤ 4800000000000000) (w : World) :
    Calls Try.prog 22 #[.int .i64 T, .int .i64 x, .int .i64 A] w fun e w' => e = .returned (.tuple #[.int .i64 (T * x / A), .int .u64 (T * x % A)]) ∧ ∃ n, w' = World.drewN w n := by
  have hb := quo_bound hT.1 hx hxA hA
  obtain ⟨t, rfl⟩ : ∃ t : Nat, T = (t : Int) := ⟨T.toNat, by have := hT.1; omega⟩
  obtain ⟨y, rfl⟩ : ∃ y : Nat, x = (y : Int) := ⟨x.toNat, by omega⟩
  obtain ⟨a, rfl⟩ : ∃ a : Nat, A = (a : Int) := ⟨A.toNat, by omega⟩
  have h2 := hT.2
  exact quotient_nat t y a _ _ (by omega) (by omega) (by omega) (by omega) (by simp) (by simp) (by omega) w

/-- may these be weights? -/
def mayW (zs : List Int) : Prop := (1 ≤ zs.length ∧ zs.length ≤ 480) ∧ (∀ z ∈ zs, 0 ≤ z ∧ z ≤ 10000000000000) ∧ ∃ z ∈ zs, 0 < z

/-- what together tells -/
def TogTo (zs : List Int) (w : World) (e : Ending) (w' : World) : Prop :=
  (∃ n, w' = World.drewN w n) ∧ ((¬ mayW zs ∧ e = .returned (.tuple #[.int .i64 0, .iface 29 (.int .i64 1)])) ∨ (mayW zs ∧ e = .returned (.tuple #[.int .i64 (sumF (wgt zs) zs.length), .nilIface])))

theorem mem_wgt {zs : List Int} {z : Int} (h : z ∈ zs) : ∃ i, i < zs.length ∧ wgt zs i = z := by
  obtain ⟨k, hk, rfl⟩ := List.getElem_of_mem h
  exact ⟨k, hk, by simp [wgt, List.getD, hk]⟩
theorem wgt_mem {zs : List Int} {i : Nat} (h : i < zs.length) : wgt zs i ∈ zs := by
  have : wgt zs i = zs[i] := by simp [wgt, List.getD, h]
  rw [this]; exact List.getElem_mem _
theorem sumF_zero {f : Nat → Int} {n : Nat} (h : ∀ i, i < n → 0 ≤ f i) (hs : sumF f n = 0) : ∀ i, i < n → f i = 0 := fun i hi => by
  have h1 := sumF_ge h hi
  have h2 := h i hi
  omega

set_option maxHeartbeats 1000000 in
theorem together_any (a : Option Addr) (len cap : Nat) (zs : List Int) (w : World) (hE : Elems w a len zs) (hl : len ≤ 1000) :
    Calls Try.prog 20 #[.slice a len cap] w (TogTo zs w) := by
  have hz : zs.length = len := hE.1
  by_cases h480 : 480 < len
  · have i1 : (480 : Int) < (len : Int) := by omega
    have HB : Hid (¬ mayW zs) := fun h => by have := h.1.2; omega
    clear hz
    go_enter Try.func20, Try.ntmps20
    go_wp2_with fail
    go_ret2
    exact ⟨⟨0, rfl⟩, Or.inl ⟨HB.out, rfl⟩⟩
  · have i1 : ¬ (480 : Int) < (len : Int) := by omega
    have HE := Lib.hid hE
    have HZ := Lib.hid hz
    clear hE hz
    go_enter Try.func20, Try.ntmps20
    go_wp2_with fail
    go_loopw [4, 13] (fun s i wr => ∃ k : Nat, k ≤ len ∧ i = .int .i64 k ∧ s = .int .i64 (sumF (wgt zs) k) ∧ Hid (∀ j, j < k → 0 ≤ wgt zs j ∧ wgt zs j ≤ 10000000000000) ∧ ∃ q, wr = World.drewN w q) (fun _ i _ => len - (RowKit.intOf i).toNat)
    case atStart => exact ⟨0, Nat.zero_le _, rfl, rfl, fun j hj => absurd hj (Nat.not_lt_zero _), 0, rfl⟩
    case round =>
      obtain ⟨k, hk, rfl, rfl, hA, q, rfl⟩ := hrel
      by_cases hkl : k < len
      · have j1 : (0 : Int) ≤ (k : Int) := by omega
        have j2 : (k : Int) < (len : Int) := by omega
        rcases HE.out.2.2 with h0 | ⟨b, off, rfl, hc⟩
        · omega
        have c1 := hc k hkl
        have hb := sumF_bound (f := wgt zs) (n := k) (a := 0) (b := 10000000000000) hA.out
        change w.cell? _ = some (.int .i64 (wgt zs k)) at c1
        obtain ⟨x, hx⟩ : ∃ x, wgt zs k = x := ⟨_, rfl⟩
        obtain ⟨s, hs⟩ : ∃ s, sumF (wgt zs) k = s := ⟨_, rfl⟩
        rw [hx] at c1
        rw [hs] at hb
        rw [hs]
        have HX : Hid (wgt zs k = x ∧ sumF (wgt zs) k = s) := ⟨hx, hs⟩
        clear hc hx hs
        by_cases ok : okS x
        · have hm := mayBe_yes x (World.drewN w q) ok
          obtain ⟨o1, o2⟩ := ok
          have HO : Hid (0 ≤ x ∧ x ≤ 10000000000000) := ⟨o1, o2⟩
          go_wp2_with (go_at_call 21; refine Calls.mono hm ?_; rintro e w1 ⟨rfl, rfl⟩)
          go_roundw
          case rel =>
            refine ⟨k + 1, by omega, by go_num, ?_, fun j hj => ?_, q, rfl⟩
            · simp only [sumF, HX.out.1, HX.out.2]
            · by_cases e : j = k
              · subst e; rw [HX.out.1]; exact HO.out
              · exact hA.out j (by omega)
          case measure => simp [RowKit.intOf]; omega
        · have hm := mayBe_no x (World.drewN w q) ok
          have HB : Hid (¬ mayW zs) := fun h => ok (by rw [← HX.out.1]; exact h.2.1 _ (wgt_mem (by rw [HZ.out]; exact hkl)))
          clear ok
          go_wp2_with (go_at_call 21; refine Calls.mono hm ?_; rintro e w1 ⟨rfl, rfl⟩)
          go_ret2
          exact ⟨⟨q, rfl⟩, Or.inl ⟨HB.out, rfl⟩⟩
      · have j2 : ¬ (k : Int) < (len : Int) := by omega
        obtain rfl : k = len := by omega
        by_cases hs : sumF (wgt zs) k = 0
        · have HB : Hid (¬ mayW zs) := fun h => by
            obtain ⟨z, hz, hp⟩ := h.2.2
            obtain ⟨i, hi, rfl⟩ := mem_wgt hz
            rw [HZ.out] at hi
            have := sumF_zero (fun j hj => (hA.out j hj).1) hs i hi
            omega
          go_wp2_with fail
          go_ret2
          exact ⟨⟨q, rfl⟩, Or.inl ⟨HB.out, rfl⟩⟩
        · have HB : Hid (mayW zs) := by
            refine ⟨⟨?_, by rw [HZ.out]; omega⟩, fun z hz => ?_, ?_⟩
            · rw [HZ.out]
              by_cases e : k = 0
              · subst e; exact absurd rfl hs
              · omega
            · obtain ⟨i, hi, rfl⟩ := mem_wgt hz
              rw [HZ.out] at hi
              exact hA.out i hi
            · refine Classical.byContradiction fun hn => hs ?_
              have : ∀ i, i < k → wgt zs i = 0 := fun i hi => by
                have h1 := (hA.out i hi).1
                by_cases c : 0 < wgt zs i
                · exact absurd ⟨_, wgt_mem (by rw [HZ.out]; exact hi), c⟩ hn
                · omega
              rw [sumF_eq (g := fun _ => 0) this, sum_const]; simp
          have hs' : (sumF (wgt zs) k == 0) = false := beq_eq_false_iff_ne.2 hs
          go_wp2_with fail
          go_ret2
          exact ⟨⟨q, rfl⟩, Or.inr ⟨HB.out, by rw [HZ.out]; rfl⟩⟩
end Go.Proofs.Ytkmoibikempieaa
