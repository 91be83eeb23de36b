/- The test of two places: split's greatestFirst$1 and cmp.Compare. -/
import Derived.Test.YtkmoibikempieaaSymM1
import Derived.Test.YtkmoibikempieaaSplitNum
import Derived.Lib.Hide
namespace Go.Proofs.Ytkmoibikempieaa
open Go Go.RowKit Go.Sort Go.Lib
set_option linter.unusedVariables false

theorem isNaN_any (x : Int) (w : World) : Calls Try.prog 41 #[.int .u64 x] w fun e w' => e = .returned (.bool false) ∧ w' = w := by
  go_enter Try.func41, Try.ntmps41
  go_wp2_with fail
  go_ret
  exact ⟨by simp, rfl⟩

/-- three ways -/
def cmp3 (x y : Int) : Int := if x < y then -1 else if y < x then 1 else 0

theorem compare_any (x y : Int) (w : World) : Calls Try.prog 35 #[.int .u64 x, .int .u64 y] w fun e w' => e = .returned (.int .i64 (cmp3 x y)) ∧ w' = w := by
  have hx := isNaN_any x w
  have hy := isNaN_any y w
  unfold cmp3
  by_cases h1 : x < y
  · go_enter Try.func35, Try.ntmps35
    go_wp2_with (first | (go_at_call 41; refine Calls.mono hx ?_; rintro e w2 ⟨rfl, rfl⟩) | (go_at_call 41; refine Calls.mono hy ?_; rintro e w2 ⟨rfl, rfl⟩))
    go_ret
    exact ⟨by simp, rfl⟩
  · by_cases h2 : y < x
    · go_enter Try.func35, Try.ntmps35
      go_wp2_with (first | (go_at_call 41; refine Calls.mono hx ?_; rintro e w2 ⟨rfl, rfl⟩) | (go_at_call 41; refine Calls.mono hy ?_; rintro e w2 ⟨rfl, rfl⟩))
      go_ret
      exact ⟨by simp, rfl⟩
    · go_enter Try.func35, Try.ntmps35
      go_wp2_with (first | (go_at_call 41; refine Calls.mono hx ?_; rintro e w2 ⟨rfl, rfl⟩) | (go_at_call 41; refine Calls.mono hy ?_; rintro e w2 ⟨rfl, rfl⟩))
      go_ret
      exact ⟨by simp, rfl⟩

/-- how two places are held against each other: by their rests, the greater one first -/
def cfR {N : Nat} (r : Nat → Int) (x y : Fin (N + 1)) : Int := cmp3 (r y.val) (r x.val)

set_option maxHeartbeats 1000000 in
theorem closure_walk {N : Nat} (r : Nat → Int) (x y : Fin (N + 1)) (bx rb ro cap : Nat) (w : World) (h0 : w.cell? ⟨bx, 0, none⟩ = some (.slice (some ⟨rb, ro, none⟩) (N + 1) cap))
    (h1 : ∀ i, i < N + 1 → w.cell? ⟨rb, ro + i, none⟩ = some (.int .u64 (r i))) :
    Calls Try.prog 34 #[.int .i64 (x.val : Int), .int .i64 (y.val : Int), .pointer (some ⟨bx, 0, none⟩)] w fun e w' => e = .returned (.int .i64 (cfR r x y)) ∧ ∃ q, w' = w.drewN q := by
  obtain ⟨a, ha⟩ := x
  obtain ⟨b, hb⟩ := y
  simp only [cfR]
  have c1 := h1 a ha
  have c2 := h1 b hb
  generalize r a = u at c1
  generalize r b = v at c2
  have pa : (0 : Int) ≤ (a : Int) := by omega
  have pb : (0 : Int) ≤ (b : Int) := by omega
  have la : (a : Int) < ((N + 1 : Nat) : Int) := by omega
  have lb : (b : Int) < ((N + 1 : Nat) : Int) := by omega
  obtain ⟨L, hL⟩ : ∃ q, q = N + 1 := ⟨_, rfl⟩
  rw [← hL] at h0 la lb
  have hc := fun n => compare_any v u (w.drewN n)
  generalize cmp3 v u = c at hc ⊢
  clear h1 ha hb hL
  go_enter Try.func34, Try.ntmps34
  go_wp2_with fail
  go_quiet (first | (go_at_call 35; with_reducible exact Calls.quiet_of_same (hc _)))
  go_wp2
  go_ret
  exact ⟨rfl, _, rfl⟩

theorem cmpC_rests {N : Nat} (r : Nat → Int) (bx rb ro cap blk off sz : Nat) (w0 : World) (hb : blk < w0.heap.size) (hx : bx ≠ blk) (hxs : bx < w0.heap.size) (hr : rb ≠ blk) (hrs : rb < w0.heap.size)
    (h0 : w0.cell? ⟨bx, 0, none⟩ = some (.slice (some ⟨rb, ro, none⟩) (N + 1) cap)) (h1 : ∀ i, i < N + 1 → w0.cell? ⟨rb, ro + i, none⟩ = some (.int .u64 (r i))) :
    CmpC N (.pointer (some ⟨bx, 0, none⟩)) (cfR r) blk off sz w0 := by
  rintro W dk hs ⟨n, os, rfl⟩ x y
  have kept : ∀ (b k : Nat) (v : Value), b ≠ blk → b < w0.heap.size → w0.cell? ⟨b, k, none⟩ = some v → (sortWorld encP w0 blk off n dk os).cell? ⟨b, k, none⟩ = some v := fun b k v hne hlt h => by
    unfold sortWorld
    rw [cell?_grow _ _ _ (by rw [size_putRow]; exact hlt), cell?_putRow_other encP _ blk off dk _ (Or.inl hne)]
    exact h
  exact closure_walk r x y bx rb ro cap _ (kept _ _ _ hx hxs h0) fun i hi => kept _ _ _ hr hrs (h1 i hi)

/-- that order -/
def ttR {N : Nat} (r : Nat → Int) (x y : Fin (N + 1)) : Prop := aheadB r x.val y.val = true

theorem tot_rests {N : Nat} (r : Nat → Int) : Tot (ltOf (cfR (N := N) r)) (ttR r) (fun x => x.val) where
  trans := fun {x y z} h1 h2 => by
    unfold ttR at *; rw [ahead_iff] at *; omega
  less := fun {x y} hp h => by
    unfold ttR; rw [ahead_iff]
    have h := of_decide_eq_true h
    unfold cfR cmp3 at h
    split at h
    · exact Or.inl (by omega)
    · split at h <;> omega
  more := fun {x y} hp h => by
    unfold ttR; rw [ahead_iff]
    have h := of_decide_eq_false h
    unfold cfR cmp3 at h
    split at h
    · omega
    · split at h
      · omega
      · have : r y.val ≤ r x.val := by omega
        by_cases e : r x.val = r y.val
        · exact Or.inr ⟨e, hp⟩
        · exact Or.inl (by omega)
end Go.Proofs.Ytkmoibikempieaa
