/- The document's answer of layer 9: an account's name. -/
import Derived.Test.YtkiehlkmbkgenaaDoorChartRef2
import Derived.Test.YtkiehlkmbkgenaaDoorChartL4
import Derived.Deep.RegionHeld3
namespace Go.Proofs.YtkiehlkmbkgenaaDoor
open Go Go.RowKit
set_option linter.unusedVariables false

theorem refNames_any (w : World) : Calls Tryd.prog 17 #[] w
    fun e w' => e = .returned (.slice (some ⟨w.heap.size, 0, none⟩) 12 12) ∧ w' = w.alloc (Obj.cells (nams.map fun l => .string (strL l)).toArray 9) := by
  go_enter Tryd.func17, Tryd.ntmps17
  go_wp2_with fail
  go_ret
  exact ⟨rfl, rfl⟩
theorem names_cell (w : World) (j : Nat) (hj : j < 12) : (w.alloc (Obj.cells (nams.map fun l => Value.string (strL l)).toArray 9)).cell? ⟨w.heap.size, j, none⟩ = some (.string (strL (nam (j + 1)))) := by
  have : ∀ j : Fin 12, ((nams.map fun l => Value.string (strL l)).toArray)[j.1]? = some (.string (strL (nam (j.1 + 1)))) := by
    intro j
    match j with
    | 0 | 1 | 2 | 3 | 4 | 5 | 6 | 7 | 8 | 9 | 10 | 11 => rfl
  have h := this ⟨j, hj⟩
  simpa using h

set_option linter.unusedSimpArgs false in
set_option maxRecDepth 100000 in
set_option maxHeartbeats 4000000 in
theorem refName_any (j n : Nat) (hj : j < 12) (hn : n ≤ 65536) (w : World) :
    Calls Tryd.prog 12 #[accV ((j : Int) + 1) n] w
    fun e w' => e = .returned (.string (strL (nameL (j + 1) n))) ∧ Below w.heap.size w w' := by
  have q0 : (j : Int) + 1 - 1 = (j : Int) := by omega
  have q1 : IntKind.i64.wrap (j : Int) = (j : Int) := IntWalk.i64_in _ (by omega)
  have q2 : IntKind.i64.wrap ((j : Int) + 1 - 1) = (j : Int) := by rw [q0, q1]
  have q3 : (0 : Int) ≤ (j : Int) := by omega
  have q4 : (j : Int) < 12 := by omega
  go_enter Tryd.func12, Tryd.ntmps12
  go_wp2_with fail
  refine wp_region_held_drew (S := fun w' => w'.cell? ⟨w.heap.size, 0, none⟩ = some (.int .i64 ((j : Int) + 1)) ∧ w'.cell? ⟨w.heap.size, 1, none⟩ = some (.int .i64 (n : Int))) (by kernel_rfl) ⟨by simp, by simp⟩ (fun hHeld => ?_)
  refine wpAnyH_take (i := 1) (v := ?_) rfl (by kernel_rfl) (by kernel_rfl) (by kernel_rfl) (fun _ _ _ h => h) (Or.inl ⟨by rfl, ?_⟩) (by assumption) ?_
  rotate_left
  · (intro w hSw; (try dsimp only at hSw); go_simp) <;> with_reducible rfl
  try simp only [Act.put, List.getElem_toArray, List.getElem_cons_zero, List.getElem_cons_succ, List.setIfInBounds_toArray, List.set_cons_zero, List.set_cons_succ]
  refine wpAnyH_take (i := 2) (v := ?_) rfl (by kernel_rfl) (by kernel_rfl) (by kernel_rfl) (fun _ _ _ h => h) (Or.inl ⟨by rfl, ?_⟩) (by assumption) ?_
  rotate_left
  · (intro w hSw; (try dsimp only at hSw); go_simp) <;> with_reducible rfl
  try simp only [Act.put, List.getElem_toArray, List.getElem_cons_zero, List.getElem_cons_succ, List.setIfInBounds_toArray, List.set_cons_zero, List.set_cons_succ]
  refine wpAnyH_take (i := 3) (v := ?_) rfl (by kernel_rfl) (by kernel_rfl) (by kernel_rfl) (fun _ _ _ h => h) (Or.inl ⟨by rfl, ?_⟩) (by assumption) ?_
  rotate_left
  · (intro w hSw; (try dsimp only at hSw); go_simp) <;> with_reducible rfl
  try simp only [Act.put, List.getElem_toArray, List.getElem_cons_zero, List.getElem_cons_succ, List.setIfInBounds_toArray, List.set_cons_zero, List.set_cons_succ]
  refine wpAnyH_ready (rs := [0]) (by kernel_rfl) (by simp) ?_
  refine AllReadyH.cons rfl (fun K hK => ?_) AllReadyH.nil
  go_simp
  go_at_call 17
  with_reducible refine (refNames_any _).mono ?_
  rintro e w6 ⟨rfl, rfl⟩
  have hN := names_cell (w.alloc (Obj.cells #[.int .i64 ((j : Int) + 1), .int .i64 (n : Int)] 23)).drew j hj
  have HB := Lib.hid (((((Below.refl w.heap.size w).alloc (Nat.le_refl _) (Obj.cells #[.int .i64 ((j : Int) + 1), .int .i64 (n : Int)] 23)).drew).alloc (by simp) (Obj.cells (nams.map fun l => .string (strL l)).toArray 9)))
  have hs : (w.alloc (Obj.cells #[.int .i64 ((j : Int) + 1), .int .i64 (n : Int)] 23)).drew.heap.size = w.heap.size + 1 := by simp
  rw [hs] at hN
  obtain ⟨hc0, hc1, -⟩ := ((At2.new w ((j : Int) + 1) (n : Int)).up (Below.refl _ _).drew).alloc (Obj.cells (nams.map fun l => .string (strL l)).toArray 9)
  generalize (w.alloc (Obj.cells #[.int .i64 ((j : Int) + 1), .int .i64 (n : Int)] 23)).drew.alloc (Obj.cells (nams.map fun l => .string (strL l)).toArray 9) = w7 at hN HB hc0 hc1 ⊢
  go_wp2_with fail
  refine hK.out _ _ ⟨hc0, hc1⟩ (fun hHeld => ?_)
  clear hK K
  try simp only [Act.put, List.getElem_toArray, List.getElem_cons_zero, List.getElem_cons_succ, List.setIfInBounds_toArray, List.set_cons_zero, List.set_cons_succ]
  refine wpAnyH_take (i := 4) (v := ?_) rfl (by kernel_rfl) (by kernel_rfl) (by kernel_rfl) (fun _ _ _ h => h) (Or.inl ⟨by rfl, ?_⟩) (by assumption) ?_
  rotate_left
  · (intro w hSw; (try dsimp only at hSw); go_simp) <;> with_reducible rfl
  try simp only [Act.put, List.getElem_toArray, List.getElem_cons_zero, List.getElem_cons_succ, List.setIfInBounds_toArray, List.set_cons_zero, List.set_cons_succ]
  refine wpAnyH_ready (rs := [5]) (by kernel_rfl) (by simp) ?_
  refine AllReadyH.cons rfl (fun K hK => ?_) AllReadyH.nil
  go_simp
  skip
  refine hK.out _ _ ⟨hc0, hc1⟩ (fun hHeld => ?_)
  clear hK K
  try simp only [Act.put, List.getElem_toArray, List.getElem_cons_zero, List.getElem_cons_succ, List.setIfInBounds_toArray, List.set_cons_zero, List.set_cons_succ]
  refine wpAnyH_take (i := 6) (v := ?_) rfl (by kernel_rfl) (by kernel_rfl) (by kernel_rfl) (fun _ _ _ h => h) (Or.inl ⟨by rfl, ?_⟩) (by assumption) ?_
  rotate_left
  · (intro w hSw; (try dsimp only at hSw); go_simp) <;> with_reducible rfl
  try simp only [Act.put, List.getElem_toArray, List.getElem_cons_zero, List.getElem_cons_succ, List.setIfInBounds_toArray, List.set_cons_zero, List.set_cons_succ]
  refine wpAnyH_done (by kernel_rfl) ?_ _
  by_cases h0 : n = 0
  · subst h0
    go_wp2_with fail
    go_ret
    exact ⟨by simp [nameL], HB.out⟩
  · have t1 : (0 : Int) < (n : Int) := by omega
    have t2 : (strL (nam (j + 1))).size + 1 ≤ 9223372036854775807 := by
      have := (nam_len ⟨j + 1, by omega⟩ (by simp)).2
      simp only at this
      rw [strL_size]; omega
    have t3 : (strL (nam (j + 1)) ++ strL [46]).size + (strL (decL n)).size ≤ 9223372036854775807 := by
      have := (nam_len ⟨j + 1, by omega⟩ (by simp)).2
      have := decL_len 5 n (by omega)
      simp only at *
      rw [strL_append, strL_size, strL_size, List.length_append, List.length_singleton]; omega
    have t4 : (strL (nam (j + 1))).size + 1 + (strL (decL n)).size ≤ 9223372036854775807 := by
      have := (nam_len ⟨j + 1, by omega⟩ (by simp)).2
      have := decL_len 5 n (by omega)
      simp only at *
      rw [strL_size, strL_size]; omega
    have ee : strL (nam (j + 1)) ++ strL [46] ++ strL (decL n) = strL (nameL (j + 1) n) := by
      rw [strL_append, strL_append]; simp [nameL, h0]
    go_wp2_with fail
    refine (refDec_any n hn _).mono ?_
    rintro e w8 ⟨rfl, hb8⟩
    have HB8 := Lib.hid (HB.out.trans (hb8.mono HB.out.size))
    go_wp2_with fail
    go_ret
    exact ⟨by first | (rw [← ee]; rfl) | rfl, HB8.out⟩
end Go.Proofs.YtkiehlkmbkgenaaDoor
