/- The landed package chart: cmp.Or, Less, numbered. -/
import Derived.Test.YtcdkgfjjgebcnaaDoorChart
import Derived.Test.YtcdkgfjjgebcnaaDoorChartNum3
import Derived.Sort.Grow
namespace Go.Proofs.YtcdkgfjjgebcnaaDoor
open Go Go.RowKit
set_option linter.unusedVariables false

set_option maxHeartbeats 2000000 in
theorem or2_any (b : Nat) (x y z : Int) (w : World) (hz : (if x = 0 then y else x) = z) (c0 : w.cell? ⟨b, 0, none⟩ = some (.int .i64 x)) (c1 : w.cell? ⟨b, 1, none⟩ = some (.int .i64 y)) :
    Calls Tryd.prog 66 #[.slice (some ⟨b, 0, none⟩) 2 2] w fun e w' => e = .returned (.int .i64 z) ∧ w' = w := by
  subst hz
  go_enter Tryd.func66, Tryd.ntmps66
  go_wp2_with fail
  go_loopw [8] (fun i wr => wr = w ∧ (i = .int .i64 0 ∨ (i = .int .i64 1 ∧ x = 0) ∨ (i = .int .i64 2 ∧ x = 0 ∧ y = 0))) (fun i _ => 2 - (RowKit.intOf i).toNat)
  case atStart => exact ⟨rfl, Or.inl rfl⟩
  case round =>
    obtain ⟨rfl, rfl | ⟨rfl, rfl⟩ | ⟨rfl, rfl, rfl⟩⟩ := hrel
    · by_cases hx : x = 0
      · subst hx
        go_wp2_with fail
        go_roundw
        case rel => simp
        case measure => simp [RowKit.intOf]
      · have h1 : (x != 0) = true := by simpa using hx
        have HX := Lib.hid hx
        clear hx
        go_wp2_with fail
        go_ret
        exact ⟨by first | rfl | (rw [if_neg HX.out]; rfl), rfl⟩
    · by_cases hx : y = 0
      · subst hx
        go_wp2_with fail
        go_roundw
        case rel => simp
        case measure => simp [RowKit.intOf]
      · have h1 : (y != 0) = true := by simpa using hx
        go_wp2_with fail
        go_ret
        exact ⟨by simp, rfl⟩
    · go_wp2_with fail
      go_ret
      exact ⟨by simp, rfl⟩

theorem two_c0 {W : World} {n : Nat} {x y : Value} {t : TypeId} (h : W.heap.size = n) : ((W.alloc (Obj.cells #[x, y] t)).drew).cell? ⟨n, 0, none⟩ = some x := by subst h; simp
theorem two_c1 {W : World} {n : Nat} {x y : Value} {t : TypeId} (h : W.heap.size = n) : ((W.alloc (Obj.cells #[x, y] t)).drew).cell? ⟨n, 1, none⟩ = some y := by subst h; simp

/-- nothing but draws and new blocks -/
def GrownTo (w w' : World) : Prop := ∃ (q : Nat) (os : Array Obj), w' = Sort.grow (w.drewN q) os
theorem GrownTo.refl (w : World) : GrownTo w w := ⟨0, #[], by rw [Sort.grow_empty]; rfl⟩
theorem GrownTo.alloc {w w' : World} (h : GrownTo w w') (o : Obj) : GrownTo w (w'.alloc o) := by
  obtain ⟨q, os, rfl⟩ := h
  exact ⟨q, os ++ #[o], by rw [Sort.alloc_eq_grow, Sort.grow_grow]⟩
theorem GrownTo.drew {w w' : World} (h : GrownTo w w') : GrownTo w w'.drew := by
  obtain ⟨q, os, rfl⟩ := h
  exact ⟨q + 1, os, rfl⟩
theorem GrownTo.drewN {w w' : World} (h : GrownTo w w') (n : Nat) : GrownTo w (w'.drewN n) := by
  obtain ⟨q, os, rfl⟩ := h
  exact ⟨q + n, os, by rw [show (Sort.grow (w.drewN q) os).drewN n = Sort.grow ((w.drewN q).drewN n) os from rfl, World.drewN_drewN]⟩
theorem GrownTo.trans {a b c : World} (h : GrownTo a b) (k : GrownTo b c) : GrownTo a c := by
  obtain ⟨q, os, rfl⟩ := h
  obtain ⟨q', os', rfl⟩ := k
  exact ⟨q + q', os ++ os', by rw [show (Sort.grow (a.drewN q) os).drewN q' = Sort.grow ((a.drewN q).drewN q') os from rfl, World.drewN_drewN, Sort.grow_grow]⟩

/-- two accounts at their blocks, and all that was there -/
structure PairAt (w0 : World) (B : Nat) (ka oa kb ob : Int) (w : World) : Prop where
  a : At2 B ka oa w
  b : At2 (B + 1) kb ob w
  base : Below w0.heap.size w0 w
  gr : GrownTo w0 w
section
variable {w0 w1 w2 w : World} {B : Nat} {ka oa kb ob : Int}
theorem PairAt.alloc (h : PairAt w0 B ka oa kb ob w1) (o : Obj) : PairAt w0 B ka oa kb ob (w1.alloc o) :=
  have hb : Below w1.heap.size w1 (w1.alloc o) := (Below.refl _ _).alloc (Nat.le_refl _) o
  ⟨h.a.up hb, h.b.up hb, h.base.trans (hb.mono h.base.size), h.gr.alloc o⟩
theorem PairAt.drew (h : PairAt w0 B ka oa kb ob w1) : PairAt w0 B ka oa kb ob w1.drew :=
  have hb : Below w1.heap.size w1 w1.drew := (Below.refl _ _).drew
  ⟨h.a.up hb, h.b.up hb, h.base.trans (hb.mono h.base.size), h.gr.drew⟩
theorem PairAt.s (h : PairAt w0 B ka oa kb ob w1) : w1.cell? ⟨B, 0, none⟩ = some (.int .i64 ka) ∧ w1.cell? ⟨B, 1, none⟩ = some (.int .i64 oa) ∧ w1.cell? ⟨B + 1, 0, none⟩ = some (.int .i64 kb) ∧ w1.cell? ⟨B + 1, 1, none⟩ = some (.int .i64 ob) := ⟨h.a.c0, h.a.c1, h.b.c0, h.b.c1⟩
theorem PairAt.new (w : World) (ka oa kb ob : Int) : PairAt w w.heap.size ka oa kb ob ((w.alloc (Obj.cells #[.int .i64 ka, .int .i64 oa] 24)).alloc (Obj.cells #[.int .i64 kb, .int .i64 ob] 24)) := by
  have hb := At2.new (w.alloc (Obj.cells #[.int .i64 ka, .int .i64 oa] 24)) kb ob
  rw [World.size_alloc] at hb
  exact ⟨(At2.new w ka oa).alloc _, hb, ((Below.refl w.heap.size w).alloc (Nat.le_refl _) _).alloc (by simp) _, ((GrownTo.refl w).alloc _).alloc _⟩
end

set_option linter.unusedSimpArgs false in
set_option maxRecDepth 100000 in
set_option maxHeartbeats 4000000 in
theorem less_free (k o k' o' : Int) (w : World) : Calls Tryd.prog 50 #[accV k o, accV k' o'] w fun e w' => e = .returned (.bool (decide (LessK k o k' o'))) ∧ Below w.heap.size w w' ∧ GrownTo w w' := by
  have hX := Lib.hid (PairAt.new w k o k' o')
  obtain ⟨z, hz⟩ : ∃ z, (if Lib.compareInt k k' = 0 then Lib.compareInt o o' else Lib.compareInt k k') = z := ⟨_, rfl⟩
  have hL : decide (LessK k o k' o') = decide (z < 0) := by
    rw [← hz]
    apply decide_eq_decide.2
    unfold LessK Lib.compareInt
    repeat' split
    all_goals omega
  rw [hL]
  have HZ := Lib.hid hz
  clear hL hz
  go_enter Tryd.func50, Tryd.ntmps50
  go_wp2_with fail
  refine wp_region_held_drew (S := fun w' => w'.cell? ⟨w.heap.size, 0, none⟩ = some (.int .i64 k) ∧ w'.cell? ⟨w.heap.size, 1, none⟩ = some (.int .i64 o) ∧ w'.cell? ⟨w.heap.size + 1, 0, none⟩ = some (.int .i64 k') ∧ w'.cell? ⟨w.heap.size + 1, 1, none⟩ = some (.int .i64 o')) (by kernel_rfl) hX.out.drew.s (fun hHeld => ?_)
  refine wpAnyH_take (i := 0) (v := ?_) rfl (by kernel_rfl) (by kernel_rfl) (by kernel_rfl) (fun _ _ _ h => h) (Or.inl ⟨by rfl, ?_⟩) (by assumption) ?_
  rotate_left
  · (intro w hSw; (try dsimp only at hSw); go_simp) <;> with_reducible rfl
  try simp only [Act.put, List.getElem_toArray, List.getElem_cons_zero, List.getElem_cons_succ, List.setIfInBounds_toArray, List.set_cons_zero, List.set_cons_succ]
  refine wpAnyH_take (i := 1) (v := ?_) rfl (by kernel_rfl) (by kernel_rfl) (by kernel_rfl) (fun _ _ _ h => h) (Or.inl ⟨by rfl, ?_⟩) (by assumption) ?_
  rotate_left
  · (intro w hSw; (try dsimp only at hSw); go_simp) <;> with_reducible rfl
  try simp only [Act.put, List.getElem_toArray, List.getElem_cons_zero, List.getElem_cons_succ, List.setIfInBounds_toArray, List.set_cons_zero, List.set_cons_succ]
  refine wpAnyH_take (i := 2) (v := ?_) rfl (by kernel_rfl) (by kernel_rfl) (by kernel_rfl) (fun _ _ _ h => h) (Or.inl ⟨by rfl, ?_⟩) (by assumption) ?_
  rotate_left
  · (intro w hSw; (try dsimp only at hSw); go_simp) <;> with_reducible rfl
  try simp only [Act.put, List.getElem_toArray, List.getElem_cons_zero, List.getElem_cons_succ, List.setIfInBounds_toArray, List.set_cons_zero, List.set_cons_succ]
  refine wpAnyH_take (i := 3) (v := ?_) rfl (by kernel_rfl) (by kernel_rfl) (by kernel_rfl) (fun _ _ _ h => h) (Or.inl ⟨by rfl, ?_⟩) (by assumption) ?_
  rotate_left
  · (intro w hSw; (try dsimp only at hSw); go_simp) <;> with_reducible rfl
  try simp only [Act.put, List.getElem_toArray, List.getElem_cons_zero, List.getElem_cons_succ, List.setIfInBounds_toArray, List.set_cons_zero, List.set_cons_succ]
  refine wpAnyH_take (i := 5) (v := ?_) rfl (by kernel_rfl) (by kernel_rfl) (by kernel_rfl) (fun _ _ _ h => h) (Or.inl ⟨by rfl, ?_⟩) (by assumption) ?_
  rotate_left
  · (intro w hSw; (try dsimp only at hSw); go_simp) <;> with_reducible rfl
  try simp only [Act.put, List.getElem_toArray, List.getElem_cons_zero, List.getElem_cons_succ, List.setIfInBounds_toArray, List.set_cons_zero, List.set_cons_succ]
  refine wpAnyH_take (i := 6) (v := ?_) rfl (by kernel_rfl) (by kernel_rfl) (by kernel_rfl) (fun _ _ _ h => h) (Or.inl ⟨by rfl, ?_⟩) (by assumption) ?_
  rotate_left
  · (intro w hSw; (try dsimp only at hSw); go_simp) <;> with_reducible rfl
  try simp only [Act.put, List.getElem_toArray, List.getElem_cons_zero, List.getElem_cons_succ, List.setIfInBounds_toArray, List.set_cons_zero, List.set_cons_succ]
  refine wpAnyH_take (i := 7) (v := ?_) rfl (by kernel_rfl) (by kernel_rfl) (by kernel_rfl) (fun _ _ _ h => h) (Or.inl ⟨by rfl, ?_⟩) (by assumption) ?_
  rotate_left
  · (intro w hSw; (try dsimp only at hSw); go_simp) <;> with_reducible rfl
  try simp only [Act.put, List.getElem_toArray, List.getElem_cons_zero, List.getElem_cons_succ, List.setIfInBounds_toArray, List.set_cons_zero, List.set_cons_succ]
  refine wpAnyH_take (i := 8) (v := ?_) rfl (by kernel_rfl) (by kernel_rfl) (by kernel_rfl) (fun _ _ _ h => h) (Or.inl ⟨by rfl, ?_⟩) (by assumption) ?_
  rotate_left
  · (intro w hSw; (try dsimp only at hSw); go_simp) <;> with_reducible rfl
  try simp only [Act.put, List.getElem_toArray, List.getElem_cons_zero, List.getElem_cons_succ, List.setIfInBounds_toArray, List.set_cons_zero, List.set_cons_succ]
  refine wpAnyH_ready (rs := [4]) (by kernel_rfl) (by simp) ?_
  refine AllReadyH.cons rfl (fun K hK => ?_) AllReadyH.nil
  go_simp
  go_at_call 67
  with_reducible refine (Tryd.cmp_Compare_int _ _ _).mono ?_
  rintro e w1 ⟨rfl, rfl⟩
  go_wp2_with fail
  refine hK.out _ _ hX.out.drew.s (fun hHeld => ?_)
  clear hK K
  try simp only [Act.put, List.getElem_toArray, List.getElem_cons_zero, List.getElem_cons_succ, List.setIfInBounds_toArray, List.set_cons_zero, List.set_cons_succ]
  refine wpAnyH_ready (rs := [9]) (by kernel_rfl) (by simp) ?_
  refine AllReadyH.cons rfl (fun K hK => ?_) AllReadyH.nil
  go_simp
  go_at_call 67
  with_reducible refine (Tryd.cmp_Compare_int _ _ _).mono ?_
  rintro e w1 ⟨rfl, rfl⟩
  go_wp2_with fail
  refine hK.out _ _ hX.out.drew.s (fun hHeld => ?_)
  clear hK K
  try simp only [Act.put, List.getElem_toArray, List.getElem_cons_zero, List.getElem_cons_succ, List.setIfInBounds_toArray, List.set_cons_zero, List.set_cons_succ]
  refine wpAnyH_ready (rs := [10]) (by kernel_rfl) (by simp) ?_
  refine AllReadyH.cons rfl (fun K hK => ?_) AllReadyH.nil
  go_simp
  have hY := Lib.hid ((hX.out.alloc (Obj.cells #[.int .i64 (Lib.compareInt k k'), .int .i64 (Lib.compareInt o o')] 3)).drew)
  have d0 : ((((w.alloc (Obj.cells #[.int .i64 k, .int .i64 o] 24)).alloc (Obj.cells #[.int .i64 k', .int .i64 o'] 24)).alloc (Obj.cells #[.int .i64 (Lib.compareInt k k'), .int .i64 (Lib.compareInt o o')] 3)).drew).cell? ⟨w.heap.size + 1 + 1, 0, none⟩ = some (.int .i64 (Lib.compareInt k k')) := two_c0 (by simp)
  have d1 : ((((w.alloc (Obj.cells #[.int .i64 k, .int .i64 o] 24)).alloc (Obj.cells #[.int .i64 k', .int .i64 o'] 24)).alloc (Obj.cells #[.int .i64 (Lib.compareInt k k'), .int .i64 (Lib.compareInt o o')] 3)).drew).cell? ⟨w.heap.size + 1 + 1, 1, none⟩ = some (.int .i64 (Lib.compareInt o o')) := two_c1 (by simp)
  generalize (((w.alloc (Obj.cells #[.int .i64 k, .int .i64 o] 24)).alloc (Obj.cells #[.int .i64 k', .int .i64 o'] 24)).alloc (Obj.cells #[.int .i64 (Lib.compareInt k k'), .int .i64 (Lib.compareInt o o')] 3)).drew = w5 at hY d0 d1 ⊢
  refine hK.out _ _ hY.out.s (fun hHeld => ?_)
  clear hK K
  try simp only [Act.put, List.getElem_toArray, List.getElem_cons_zero, List.getElem_cons_succ, List.setIfInBounds_toArray, List.set_cons_zero, List.set_cons_succ]
  refine wpAnyH_ready (rs := [11]) (by kernel_rfl) (by simp) ?_
  refine AllReadyH.cons rfl (fun K hK => ?_) AllReadyH.nil
  go_simp
  go_at_call 66
  with_reducible refine (or2_any _ _ _ z _ HZ.out d0 d1).mono ?_
  rintro e w1 ⟨rfl, rfl⟩
  go_wp2_with fail
  refine hK.out _ _ hY.out.s (fun hHeld => ?_)
  clear hK K
  try simp only [Act.put, List.getElem_toArray, List.getElem_cons_zero, List.getElem_cons_succ, List.setIfInBounds_toArray, List.set_cons_zero, List.set_cons_succ]
  refine wpAnyH_take (i := 12) (v := ?_) rfl (by kernel_rfl) (by kernel_rfl) (by kernel_rfl) (fun _ _ _ h => h) (Or.inl ⟨by rfl, ?_⟩) (by assumption) ?_
  rotate_left
  · (intro w hSw; (try dsimp only at hSw); go_simp) <;> with_reducible rfl
  try simp only [Act.put, List.getElem_toArray, List.getElem_cons_zero, List.getElem_cons_succ, List.setIfInBounds_toArray, List.set_cons_zero, List.set_cons_succ]
  refine wpAnyH_take (i := 13) (v := ?_) rfl (by kernel_rfl) (by kernel_rfl) (by kernel_rfl) (fun _ _ _ h => h) (Or.inl ⟨by rfl, ?_⟩) (by assumption) ?_
  rotate_left
  · (intro w hSw; (try dsimp only at hSw); go_simp) <;> with_reducible rfl
  try simp only [Act.put, List.getElem_toArray, List.getElem_cons_zero, List.getElem_cons_succ, List.setIfInBounds_toArray, List.set_cons_zero, List.set_cons_succ]
  refine wpAnyH_done (by kernel_rfl) ?_ _
  go_wp2_with fail
  go_ret
  exact ⟨rfl, hY.out.base, hY.out.gr⟩

theorem less_any (k o k' o' : Int) (w : World) (hk : i64 k) (ho : i64 o) (hk' : i64 k') (ho' : i64 o') : Calls Tryd.prog 50 #[accV k o, accV k' o'] w fun e w' => e = .returned (.bool (decide (LessK k o k' o'))) ∧ Below w.heap.size w w' :=
  (less_free k o k' o' w).mono fun _ _ h => ⟨h.1, h.2.1⟩
end Go.Proofs.YtcdkgfjjgebcnaaDoor
