/- What is asked of package split's calls, and what the statements' own helpers tell. -/
import Derived.Test.YtkmoibikempieaaInts
import Derived.Test.YtkmoibikempieaaSplitNum
import Derived.Test.YtkmoibikempieaaErr
import Derived.Test.YtkmoibikempieaaApp
import Derived.Laws.AppendOwnNone
import Derived.RegionTactic
import Derived.LoopTactic
import Derived.Deep.QuietTactic
import Derived.BigQuiet
import Derived.Deep.Draws
import Derived.Below
import Derived.WalkSpells
import Derived.Deep.DeepMust
import Derived.OwnWalk
import Derived.WalkSmall
import Derived.OpenShut
namespace Go.Proofs.Ytkmoibikempieaa
open Go Go.RowKit
set_option linter.unusedVariables false

def i64v (n : Int) : Value := .int .i64 n

/-- what Shares tells -/
def SharesTo (T : Int) (zs : List Int) (w : World) (e : Ending) (w' : World) : Prop :=
  Below w.heap.size w w' ∧
  ((¬ mayS T zs ∧ e = .returned (.tuple #[.slice none 0 0, .iface 29 (.int .i64 1)])) ∨
   (mayS T zs ∧ ∃ b cap, e = .returned (.tuple #[.slice (some ⟨b, 0, none⟩) zs.length cap, .nilIface]) ∧
      w'.ownsRow w.heap.size 2 1 (.slice (some ⟨b, 0, none⟩) zs.length cap) zs.length ((sharesL T zs).map i64v)))

/-- the contract of Shares -/
def SharesC : Prop := ∀ (T : Int) (a : Option Addr) (len cap : Nat) (zs : List Int) (w : World), -9223372036854775808 ≤ T → T ≤ 9223372036854775807 → Elems w a len zs → len ≤ cap → len ≤ 1000 →
  Calls Try.prog 10 #[.int .i64 T, .slice a len cap] w (SharesTo T zs w)

theorem Elems.up {w w' : World} {a : Option Addr} {len : Nat} {zs : List Int} (h : Elems w a len zs) (hb : Below w.heap.size w w') : Elems w' a len zs := by
  obtain ⟨h1, h2, h3⟩ := h
  refine ⟨h1, h2, ?_⟩
  by_cases h0 : len = 0
  · exact Or.inl h0
  · rcases h3 with h3 | ⟨b, off, rfl, hc⟩
    · exact absurd h3 h0
    · exact Or.inr ⟨b, off, rfl, fun j hj => old_cell hb (hc j hj) (cell_lt (hc j hj))⟩

theorem Elems.drewN {w : World} {a : Option Addr} {len : Nat} {zs : List Int} (h : Elems w a len zs) (n : Nat) : Elems (World.drewN w n) a len zs := h.up (below_drewN (Below.refl _ _) _)

theorem Elems.set {w : World} {a : Option Addr} {len : Nat} {zs : List Int} (h : Elems w a len zs) (p : Addr) (v : Value) (hne : ∀ x, a = some x → len = 0 ∨ x.block ≠ p.block) : Elems (w.setCell p v) a len zs := by
  obtain ⟨h1, h2, h3⟩ := h
  refine ⟨h1, h2, ?_⟩
  rcases h3 with h3 | ⟨b, off, rfl, hc⟩
  · exact Or.inl h3
  · rcases hne _ rfl with h0 | h0
    · exact Or.inl h0
    · refine Or.inr ⟨b, off, rfl, fun j hj => ?_⟩
      rw [World.cell?_setCell_other]
      · exact hc j hj
      · intro e; rw [e] at h0; exact h0 rfl

theorem Elems.cells {w : World} {a : Option Addr} {len : Nat} {zs : List Int} (h : Elems w a len zs) : Cells w a len (zs.map i64v) := by
  obtain ⟨h1, h2, h3⟩ := h
  refine ⟨by rw [List.length_map]; exact h1, ?_⟩
  rcases h3 with h3 | ⟨b, off, rfl, hc⟩
  · exact Or.inl h3
  · refine Or.inr ⟨b, off, rfl, fun j hj => ?_⟩
    rw [hc j hj]
    simp [List.getD, i64v, show j < zs.length by omega]

theorem Elems.blk {w : World} {a : Option Addr} {len : Nat} {zs : List Int} (h : Elems w a len zs) : ∀ x, a = some x → len = 0 ∨ x.block < w.heap.size := by
  intro x hx
  rcases h.2.2 with h0 | ⟨b, off, rfl, hc⟩
  · exact Or.inl h0
  · by_cases h0 : len = 0
    · exact Or.inl h0
    · cases hx
      exact Or.inr (cell_lt (hc 0 (by omega)))

theorem i64v_one (zs : List Int) : ∀ u ∈ zs.map i64v, u.oneCell' = true := by
  intro u hu
  obtain ⟨d, _, rfl⟩ := List.mem_map.1 hu
  rfl

theorem Ti64 : SliceT Try.prog 22 2 (.int .i64 0) 8 := ⟨Try.underlying22, info_i64, by decide⟩

/-- an own row of integers -/
theorem row_cell {w : World} {B : Nat} {E : TypeId} {b cap n : Nat} {zs : List Int} (h : w.ownsRow B E 1 (.slice (some ⟨b, 0, none⟩) n cap) n (zs.map i64v)) {j : Nat} (hj : j < n) :
    w.cell? ⟨b, j, none⟩ = some (.int .i64 (zs.getD j 0)) := by
  have hl : zs.length = n := by have := h.1; rw [List.length_map] at this; omega
  have := h.cellAt j (by omega)
  rw [this, List.getElem?_map, List.getElem?_eq_getElem (by omega)]
  simp [List.getD, i64v, show j < zs.length by omega]

theorem row_elems' {w : World} {B : Nat} {E : TypeId} {b cap n : Nat} {zs : List Int} (h : w.ownsRow B E 1 (.slice (some ⟨b, 0, none⟩) n cap) n (zs.map i64v)) (hb : ∀ z ∈ zs, -9223372036854775808 ≤ z ∧ z ≤ 9223372036854775807) :
    Elems w (some ⟨b, 0, none⟩) n zs := by
  refine ⟨by have := h.1; rw [List.length_map] at this; omega, hb, Or.inr ⟨b, 0, rfl, fun j hj => ?_⟩⟩
  rw [Nat.zero_add]; exact row_cell h hj

theorem own_ints {w : World} {B n : Nat} {E : TypeId} {v : Value} {zs : List Int} (h : w.ownsRow B E 1 v n (zs.map i64v)) (hb : ∀ z ∈ zs, -9223372036854775808 ≤ z ∧ z ≤ 9223372036854775807) :
    ∃ a cap, v = .slice a n cap ∧ Elems w a n zs ∧ n ≤ cap ∧ (a = none → cap = 0) := by
  have hl : zs.length = n := by have := h.1; rw [List.length_map] at this; omega
  rcases h.2 with ⟨rfl, hnil⟩ | ⟨g, cap, cur, rfl, hB, _, hc, _⟩
  · subst hnil
    exact ⟨none, 0, rfl, ⟨hl, hb, Or.inl rfl⟩, Nat.le_refl _, fun _ => rfl⟩
  · exact ⟨_, cap, rfl, row_elems' h hb, hc, fun h => by cases h⟩

theorem share_room {T : Int} {zs : List Int} (h : mayS T zs) {i : Nat} (hi : i < zs.length) : 0 ≤ shareS T (wgt zs) zs.length i ∧ shareS T (wgt zs) zs.length i ≤ 10000000000001 := by
  have h1 := mayS_sum h
  have h2 := mayS_wgt h i
  have h3 := sumF_ge (f := wgt zs) (n := zs.length) (k := i) (fun j _ => (mayS_wgt h j).1) hi
  have h4 := quo_bound h.1.1 h2.1 h3 h1.1
  have h5 := h.1.2
  unfold shareS quoS
  split <;> omega

theorem shares_room {T : Int} {zs : List Int} (h : mayS T zs) : ∀ z ∈ sharesL T zs, -9223372036854775808 ≤ z ∧ z ≤ 9223372036854775807 := by
  intro z hz
  simp only [sharesL, List.mem_map, List.mem_range] at hz
  obtain ⟨i, hi, rfl⟩ := hz
  have := share_room h hi
  omega

set_option maxHeartbeats 1000000 in
/-- two lists that are the same -/
theorem same_eq (a b : Option Addr) (len ca cb : Nat) (zs : List Int) (w : World) (h1 : Elems w a len zs) (h2 : Elems w b len zs) (hl : len ≤ 9223372036854775807) :
    Calls Try.prog 12 #[.slice a len ca, .slice b len cb] w fun e w' => e = .returned (.bool true) ∧ ∃ n, w' = World.drewN w n := by
  have t0 : ((len : Int) != (len : Int)) = false := by simp
  have H1 := Lib.hid h1
  have H2 := Lib.hid h2
  clear h1 h2
  go_enter Try.func12, Try.ntmps12
  go_wp2_with fail
  go_loopw [5] (fun i wr => ∃ k : Nat, k ≤ len ∧ i = .int .i64 k ∧ ∃ q, wr = World.drewN w q) (fun i _ => len - (RowKit.intOf i).toNat)
  case atStart => exact ⟨0, Nat.zero_le _, rfl, 0, rfl⟩
  case round =>
    obtain ⟨k, hk, rfl, q, rfl⟩ := hrel
    by_cases hkl : k < len
    · rcases H1.out.2.2 with h0 | ⟨b1, o1, rfl, c1⟩
      · omega
      rcases H2.out.2.2 with h0 | ⟨b2, o2, rfl, c2⟩
      · omega
      obtain ⟨x, hx⟩ : ∃ x, zs.getD k 0 = x := ⟨_, rfl⟩
      have d1 := c1 k hkl
      have d2 := c2 k hkl
      rw [hx] at d1 d2
      have i1 : (0 : Int) ≤ (k : Int) := by omega
      have i2 : (k : Int) < (len : Int) := by omega
      clear hx c1 c2
      go_wp2_with fail
      go_quiet (fail)
      go_wp2_with fail
      go_roundw
      case rel => exact ⟨k + 1, by omega, by go_num, _, rfl⟩
      case measure => simp [RowKit.intOf]; omega
    · have i2 : ¬ (k : Int) < (len : Int) := by omega
      go_wp2_with fail
      go_ret
      exact ⟨rfl, _, rfl⟩

theorem elems_nil (w : World) (a : Option Addr) : Elems w a 0 [] := ⟨rfl, by simp, Or.inl rfl⟩

theorem same_nil (w : World) : Calls Try.prog 12 #[.slice none 0 0, .slice none 0 0] w fun e w' => e = .returned (.bool true) ∧ ∃ n, w' = World.drewN w n :=
  same_eq none none 0 0 0 [] w (elems_nil _ _) (elems_nil _ _) (by omega)

theorem may_up : mayS 100 [1, 1, 1] := ⟨by omega, by simp, by simp, 1, by simp, by omega⟩
theorem shares_up : sharesL 100 [1, 1, 1] = [34, 33, 33] := by decide +kernel

set_option maxHeartbeats 1000000 in
theorem up03_any (SH : Hid SharesC) (w : World) : Calls Try.prog 9 #[] w fun e w' => e = .returned (.bool true) ∧ Below w.heap.size w w' := by
  go_enter Try.func9, Try.ntmps9
  go_wp2_with fail
  have E : Elems (w.alloc (Obj.cells #[.int .i64 1, .int .i64 1, .int .i64 1] 2)) (some ⟨w.heap.size, 0, none⟩) 3 [1, 1, 1] :=
    row_elems' (B := 0) (E := 2) (World.ownsRow_lit w #[.int .i64 1, .int .i64 1, .int .i64 1] 3 (Nat.zero_le _) (by decide) rfl) (by simp)
  refine (SH.out 100 _ 3 3 [1, 1, 1] _ (by omega) (by omega) E (by omega) (by omega)).mono ?_
  rintro e w1 ⟨hb, ⟨hn, -⟩ | ⟨-, b, cap, rfl, hown⟩⟩
  · exact absurd may_up hn
  · rw [shares_up] at hown
    have c0 := row_cell hown (j := 0) (by simp)
    have c1 := row_cell hown (j := 1) (by simp)
    have c2 := row_cell hown (j := 2) (by simp)
    have HB := Lib.hid hb
    simp at c0 c1 c2
    clear hown E hb
    go_wp2_with fail
    go_ret
    exact ⟨rfl, Below.trans ((Below.refl _ _).alloc (Nat.le_refl _) _) (HB.out.mono (by simp))⟩
end Go.Proofs.Ytkmoibikempieaa
