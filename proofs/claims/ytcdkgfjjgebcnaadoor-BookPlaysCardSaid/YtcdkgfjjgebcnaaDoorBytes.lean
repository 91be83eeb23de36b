/- Rows of bytes of the call's own, as the walks speak of them. -/
import Derived.Test.YtcdkgfjjgebcnaaDoorProg
import Derived.Test.YtcdkgfjjgebcnaaDoorApp
import Derived.WalkKit
import Derived.ProofKit
import Derived.LoopTactic
import Derived.RegionTactic
import Derived.Deep.QuietTactic
import Derived.BigQuiet
import Derived.Lib.Hide
import Derived.Deep.Draws
import Derived.Below
import Derived.WalkSmall
import Derived.WalkSpells
import Derived.IntWalk
import Derived.Handy
namespace Go.Proofs.YtcdkgfjjgebcnaaDoor
open Go Go.RowKit
set_option linter.unusedVariables false

/-- a byte in memory -/
def b8 (d : Nat) : Value := .int .u8 (d : Int)

theorem info_u8 : (Tryd.prog.info? 5).map (fun i => (i.zero, i.size, i.bytes)) = some (some (.int .u8 0), 1, 1) := by kernel_rfl
theorem b8_one (ds : List Nat) : ∀ u ∈ ds.map b8, u.oneCell' = true := by
  intro u hu
  obtain ⟨d, _, rfl⟩ := List.mem_map.1 hu
  rfl
theorem b8_snoc (l : List Nat) (d : Nat) : l.map b8 ++ [b8 d] = (l ++ [d]).map b8 := by simp
theorem b8_append (l r : List Nat) : l.map b8 ++ r.map b8 = (l ++ r).map b8 := by simp

theorem one_new (w : World) (v : Value) (t : TypeId) : Cells (w.alloc (.cells #[v] t)) (some ⟨w.heap.size, 0, none⟩) 1 [v] :=
  ownsRow_cells (World.ownsRow_lit (base := 0) w #[v] 1 (Nat.zero_le _) (by decide) rfl)

theorem Cells.upB {w w' : World} {a : Option Addr} {len : Nat} {vs : List Value} (h : Cells w a len vs) (hb : Below w.heap.size w w') : Cells w' a len vs := by
  refine h.below hb fun x hx => ?_
  rcases h.2 with h0 | ⟨b, off, rfl, hc⟩
  · exact Or.inl h0
  · by_cases h0 : len = 0
    · exact Or.inl h0
    · cases hx
      exact Or.inr (cell_lt (hc 0 (by omega)))

/-- what a row of bytes of the call's own looks like -/
theorem own_bytes {w : World} {B n : Nat} {v : Value} {ds : List Nat} (h : w.ownsRow B 5 1 v n (ds.map b8)) :
    ∃ a cap, v = .slice a n cap ∧ Cells w a n (ds.map b8) ∧ (a = none → cap = 0) ∧ n ≤ cap ∧ ∀ x, a = some x → B ≤ x.block := by
  rcases h.2 with ⟨rfl, rfl⟩ | ⟨g, cap, cur, rfl, hB, _, hc, _⟩
  · exact ⟨none, 0, rfl, ⟨by have := h.1; omega, Or.inl rfl⟩, fun _ => rfl, Nat.le_refl _, fun x hx => by cases hx⟩
  · exact ⟨_, cap, rfl, ownsRow_cells h, (fun h => by cases h), hc, fun x hx => by cases hx; exact hB⟩

/-- a row of bytes of the call's own is told -/
def BytesTo (w : World) (bs : List Nat) (e : Ending) (w' : World) : Prop :=
  ∃ v, e = .returned v ∧ w'.ownsRow w.heap.size 5 1 v bs.length (bs.map b8) ∧ Below w.heap.size w w'

theorem ownsRow_upB {w w' : World} {base : Nat} {e : TypeId} {size : Nat} {v : Value} {n : Nat} {xs : List Value} (h : w.ownsRow base e size v n xs) (hb : Below w.heap.size w w') : w'.ownsRow base e size v n xs := by
  obtain ⟨h1, h2⟩ := h
  refine ⟨h1, ?_⟩
  rcases h2 with h2 | ⟨g, cap, cur, hv, hg, hh, r⟩
  · exact Or.inl h2
  · have hlt : g < w.heap.size := by
      rcases Nat.lt_or_ge g w.heap.size with h | h
      · exact h
      · rw [Array.getElem?_eq_none h] at hh; cases hh
    exact Or.inr ⟨g, cap, cur, hv, hg, by rw [hb.block g hlt]; exact hh, r⟩
theorem ownsRow_monoB {w : World} {base base' : Nat} {e : TypeId} {size : Nat} {v : Value} {n : Nat} {xs : List Value} (h : w.ownsRow base e size v n xs) (hb : base' ≤ base) : w.ownsRow base' e size v n xs := by
  obtain ⟨h1, h2⟩ := h
  refine ⟨h1, ?_⟩
  rcases h2 with h2 | ⟨g, cap, cur, hv, hg, r⟩
  · exact Or.inl h2
  · exact Or.inr ⟨g, cap, cur, hv, Nat.le_trans hb hg, r⟩
end Go.Proofs.YtcdkgfjjgebcnaaDoor
