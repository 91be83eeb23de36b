/- Numbers, and slices of numbers, stay as they are while a slice of the call's own grows. -/
import Derived.Test.YtkmoibikempieaaPairs
import Derived.Test.YtkmoibikempieaaSplitC
import Derived.Test.YtkmoibikempieaaRef4
namespace Go.Proofs.Ytkmoibikempieaa
open Go Go.RowKit
set_option linter.unusedVariables false

/-- where the row's block begins no digit stands -/
def NoDigit (w : World) (row : Option Nat) : Prop := ∀ g, row = some g → ∀ d : Int, w.cell? ⟨g, 0, none⟩ ≠ some (.int .u64 d)

theorem NoDigit.none (w : World) : NoDigit w none := fun g h => by cases h

theorem NumAt.kept {w w' : World} {v : Value} {n : Int} {row : Option Nat} (h : NumAt w v n) (hg : w.grownBy w' row) (h0 : NoDigit w row) : NumAt w' v n := by
  obtain ⟨a, len, cap, ds, hv, hc, hnil, hcap, hcan, hval⟩ := h
  refine ⟨a, len, cap, ds, hv, ?_, hnil, hcap, hcan, hval⟩
  by_cases hl : len = 0
  · exact ⟨hc.1, Or.inl hl⟩
  · obtain ⟨b, off, rfl, hd⟩ := hc.digit (i := 0) (by omega)
    have hoff : off = 0 := hnil.2 _ rfl
    subst hoff
    have hne : some b ≠ row := fun e => h0 b e.symm _ hd
    rcases hc.2 with h1 | ⟨b', off', he, hcc⟩
    · exact absurd h1 hl
    · refine ⟨hc.1, Or.inr ⟨b', off', he, fun j hj => ?_⟩⟩
      simp only [Option.some.injEq, Addr.mk.injEq] at he
      obtain ⟨rfl, rfl, -⟩ := he
      exact hg.cell (hcc j hj) hne

theorem NumVar.kept {w w' : World} {N : Nat} {n : Int} {a : Option Addr} {len cap : Nat} {m : Bool} {row : Option Nat} (h : NumVar w N n a len cap m) (hg : w.grownBy w' row) (h0 : NoDigit w row) (hne : some N ≠ row) : NumVar w' N n a len cap m := by
  have hlt : N < w.heap.size := cell_lt h.c0
  have hb := hg.block N hlt hne
  exact ⟨hg.cell h.c0 hne, hg.cell h.c1 hne, (World.frozen?_of_block (w := w) hb).trans h.f0, (World.frozen?_of_block (w := w) hb).trans h.f1, h.num.kept hg h0, fun o ho => (World.cell?_of_block (w := w) hb).trans (h.sz o ho)⟩

/-- the number of each of the first k elements -/
def CutRow (wr : World) (v : Value) (B k : Nat) (r : Nat → Int) (c : Nat → Value × Value) : Prop :=
  wr.ownsRow B 36 2 v k (pcells c k) ∧ ∀ j, j < k → ∃ (a : Option Addr) (l cp : Nat) (m : Bool), c j = (.slice a l cp, .bool m) ∧ NumAt wr (.agg #[.slice a l cp, .bool m]) (r j)

theorem CutRow.up {w w' : World} {v : Value} {B k : Nat} {r : Nat → Int} {c : Nat → Value × Value} (h : CutRow w v B k r c) (hb : Below w.heap.size w w') : CutRow w' v B k r c :=
  ⟨ownsRow_up h.1 hb, fun j hj => by obtain ⟨a, l, cp, m, e, hn⟩ := h.2 j hj; exact ⟨a, l, cp, m, e, hn.up hb⟩⟩

theorem CutRow.kept {w w' : World} {v : Value} {B k : Nat} {r : Nat → Int} {c : Nat → Value × Value} {row : Option Nat} (h : CutRow w v B k r c) (hg : w.grownBy w' row) (h0 : NoDigit w row) (hne : v.ownBlock = none ∨ v.ownBlock ≠ row) : CutRow w' v B k r c :=
  ⟨h.1.kept hg hne, fun j hj => by obtain ⟨a, l, cp, m, e, hn⟩ := h.2 j hj; exact ⟨a, l, cp, m, e, hn.kept hg h0⟩⟩

/-- two own rows of different types lie apart -/
theorem rows_apart {w : World} {B B' E E' s s' n n' : Nat} {v v' : Value} {xs xs' : List Value} (h : w.ownsRow B E s v n xs) (h' : w.ownsRow B' E' s' v' n' xs') (hE : E ≠ E') : v.ownBlock = none ∨ v.ownBlock ≠ v'.ownBlock := by
  rcases h.2 with ⟨rfl, _⟩ | ⟨g, cap, cur, rfl, _, hg, _⟩
  · exact Or.inl rfl
  · right
    rcases h'.2 with ⟨rfl, _⟩ | ⟨g', cap', cur', rfl, _, hg', _⟩
    · simp [Value.ownBlock]
    · simp only [Value.ownBlock, ne_eq, Option.some.injEq]
      intro e
      subst e
      rw [hg] at hg'
      simp only [Option.some.injEq, Obj.cells.injEq] at hg'
      exact hE hg'.2.1

/-- a row of integers holds no digit at its head -/
theorem noDigit_ints {w : World} {B E n : Nat} {v : Value} {zs : List Int} (h : w.ownsRow B E 1 v n (zs.map i64v)) (hn : 0 < n) : NoDigit w v.ownBlock := by
  intro g hg d
  rcases h.2 with ⟨rfl, _⟩ | ⟨g', cap, cur, rfl, _⟩
  · cases hg
  · simp only [Value.ownBlock, Option.some.injEq] at hg
    subst hg
    rw [row_cell h hn]
    intro e; cases e

theorem noDigit_cut {w : World} {v : Value} {B k : Nat} {r : Nat → Int} {c : Nat → Value × Value} (h : CutRow w v B k r c) (hk : 0 < k) : NoDigit w v.ownBlock := by
  intro g hg d
  have h1 := h.1
  rcases h1.2 with ⟨rfl, _⟩ | ⟨g', cap, cur, rfl, _⟩
  · cases hg
  · simp only [Value.ownBlock, Option.some.injEq] at hg
    subst hg
    rw [h1.cellAt 0 (by omega)]
    have := (pcells_get c (j := 0) hk).1
    rw [Nat.zero_mul] at this
    rw [this]
    obtain ⟨a, l, cp, m, e, _⟩ := h.2 0 hk
    rw [e]
    intro e2; cases e2

/-- an empty own slice has no block -/
theorem own_none {w : World} {B E s : Nat} {v : Value} (h : v = .slice none 0 0) : NoDigit w v.ownBlock := by
  subst h; exact NoDigit.none w
end Go.Proofs.Ytkmoibikempieaa
