/- The document's answers of layer 10: a balance; lines turned; whether an entry may be posted. -/
import Derived.Test.YtcdkgfjjgebcnaaDoorBookRef2
namespace Go.Proofs.YtcdkgfjjgebcnaaDoor
open Go Go.RowKit
set_option linter.unusedVariables false

/-- what the model's books are like -/
structure Fine (s : Bk) : Prop where
  v : AllV (allL s.L)
  b : InB s
  may : MayAll s
  wf : s.wf
  len : s.L.length ≤ 4096
  row : ∀ l ∈ s.L, l.length ≤ 32 ∧ ∀ x ∈ l, x.v ≠ -9223372036854775808
theorem fine_zero : Fine Bk.zero := ⟨fun x hx => (by cases hx), inB_zero, mayAll_zero, wf_zero, by simp [Bk.zero], fun l hl => (by cases hl)⟩
theorem allL_len : ∀ (L : List (List Ln)), (∀ l ∈ L, l.length ≤ 32) → (allL L).length ≤ 32 * L.length := by
  intro L
  induction L with
  | nil => intro _; simp [allL]
  | cons a L ih =>
    intro h
    have h1 := h a (by simp)
    have h2 := ih (fun l hl => h l (by simp [hl]))
    simp only [allL, List.length_append, List.length_cons]
    omega
theorem Fine.total {s : Bk} (h : Fine s) : (allL s.L).length ≤ 131072 := by
  have h1 := allL_len s.L (fun l hl => (h.row l hl).1)
  have := h.len
  omega

set_option maxHeartbeats 4000000 in
theorem refBal10_any (M : Nat → Prop) (g : Nat) (s : Bk) (k o : Int) (w : World) (hM : MBook M g s w) (hf : Fine s) :
    Calls Tryd.prog 17 #[.pointer (some ⟨g, 0, none⟩), .agg #[.int .i64 k, .int .i64 o]] w fun e w' => e = .returned (.int .i64 (s.bal k o)) ∧ Below w.heap.size w w' := by
  have hbox : Below w.heap.size w (w.alloc (Obj.cells #[.int .i64 k, .int .i64 o] 24)) := (Below.refl _ _).alloc (Nat.le_refl _) _
  have HM := Lib.hid (hM.up hbox)
  have HB := Lib.hid hbox
  have ht := hf.total
  have HF := Lib.hid hf
  have hlen := hf.len
  clear hM hbox hf
  go_enter Tryd.func17, Tryd.ntmps17
  go_wp2_with fail
  refine (refSum10_any M g s k o none 0 0 [] _ HM.out (linesAt_nil _ _) HF.out.v (fun x hx => by cases hx) (by omega) (by omega) (Nat.le_refl _)).mono ?_
  rintro e w1 ⟨v, rfl, hn, hb1⟩
  have hz : s.bal k o + balL k o [] = s.bal k o := by simp [balL]
  rw [hz] at hn
  have HN := Lib.hid hn
  have HB1 := Lib.hid (HB.out.trans (hb1.mono HB.out.size))
  have sm : Hid (Small (s.bal k o)) := small_v (HF.out.b k o)
  have HI : Hid (inR (s.bal k o) = true) := by
    have := HF.out.b k o
    unfold in64 at this
    show inR _ = true
    simp [inR]; omega
  clear hn hb1 hz
  go_wp2_with fail
  refine (to_any v (s.bal k o) _ HN.out sm.out).mono ?_
  rintro e w2 hto
  obtain ⟨x, rfl, hx, hb2⟩ := hto
  obtain rfl := hx HI.out
  have HB2 := Lib.hid (HB1.out.trans (hb2.mono HB1.out.size))
  clear hb2 hx
  go_wp2_with fail
  go_ret
  exact ⟨rfl, HB2.out⟩

set_option maxRecDepth 100000 in
set_option maxHeartbeats 4000000 in
theorem refMay9_any (k o : Int) (w : World) : Calls Tryd.prog 47 #[.agg #[.int .i64 k, .int .i64 o]] w
    fun e w' => e = .returned (.bool (decide (MayK k o))) ∧ Below w.heap.size w w' := by
  have hb : Below w.heap.size w (w.alloc (Obj.cells #[.int .i64 k, .int .i64 o] 24)) := (Below.refl _ _).alloc (Nat.le_refl _) _
  have hcase : (k < 1 ∧ k ≤ 3 ∧ k < 4 ∧ ¬ MayK k o) ∨ (1 ≤ k ∧ k ≤ 3 ∧ (o == 0) = true ∧ MayK k o) ∨ (1 ≤ k ∧ k ≤ 3 ∧ (o == 0) = false ∧ ¬ MayK k o) ∨
      (1 ≤ k ∧ 3 < k ∧ 4 ≤ k ∧ 12 < k ∧ ¬ MayK k o) ∨ (1 ≤ k ∧ 3 < k ∧ 4 ≤ k ∧ k ≤ 12 ∧ o < 1 ∧ ¬ MayK k o) ∨ (1 ≤ k ∧ 3 < k ∧ 4 ≤ k ∧ k ≤ 12 ∧ 1 ≤ o ∧ 65536 < o ∧ ¬ MayK k o) ∨
      (1 ≤ k ∧ 3 < k ∧ 4 ≤ k ∧ k ≤ 12 ∧ 1 ≤ o ∧ o ≤ 65536 ∧ MayK k o) := by
    have e : (o == 0) = true ↔ o = 0 := by simp
    have e' : (o == 0) = false ↔ ¬ o = 0 := by simp
    rw [e, e']
    unfold MayK
    omega
  go_enter Tryd.func47, Tryd.ntmps47
  rcases hcase with ⟨t1, t2, t3, h⟩ | ⟨t1, t2, t3, h⟩ | ⟨t1, t2, t3, h⟩ | ⟨t1, t2, t3, t4, h⟩ | ⟨t1, t2, t3, t4, t5, h⟩ | ⟨t1, t2, t3, t4, t5, t6, h⟩ | ⟨t1, t2, t3, t4, t5, t6, h⟩
  all_goals
    simp only [h, decide_true, decide_false]
    clear h
    go_wp2_with fail
    go_ret
    exact ⟨by first | (simp; done) | (simp; omega), hb⟩

end Go.Proofs.YtcdkgfjjgebcnaaDoor
