/- The rows that the document's Shares writes: who got a cent, and what each has. -/
import Derived.Test.YtkmoibikempieaaKept
namespace Go.Proofs.Ytkmoibikempieaa
open Go Go.RowKit
set_option linter.unusedVariables false

def gl (g : Nat → Bool) (n : Nat) : List Value := (List.range n).map fun i => Value.bool (g i)
def ol (q : Nat → Int) (g : Nat → Bool) (n : Nat) : List Int := (List.range n).map fun i => q i + if g i = true then 1 else 0

theorem gl_set (g : Nat → Bool) (n b : Nat) : (gl g n).set b (.bool true) = gl (fun i => if i = b then true else g i) n := by
  apply List.ext_getElem
  · simp [gl]
  · intro i h1 h2
    simp only [gl, List.getElem_set, List.getElem_map, List.getElem_range]
    by_cases e : b = i
    · subst e; simp
    · simp [e, Ne.symm e]

theorem ol_set (q : Nat → Int) (g : Nat → Bool) (n b : Nat) (h : g b = false) : ((ol q g n).map i64v).set b (.int .i64 (q b + 1)) = (ol q (fun i => if i = b then true else g i) n).map i64v := by
  apply List.ext_getElem
  · simp [ol]
  · intro i h1 h2
    simp only [ol, List.getElem_set, List.getElem_map, List.getElem_range]
    by_cases e : b = i
    · subst e; simp [i64v]
    · simp [e, Ne.symm e]

theorem ol_get (q : Nat → Int) (g : Nat → Bool) {n b : Nat} (hb : b < n) (h : g b = false) : (ol q g n).getD b 0 = q b := by
  simp [ol, List.getD, hb, h]

theorem ol_none (q : Nat → Int) (n : Nat) : (List.range n).map q = ol q (fun _ => false) n := by
  simp [ol]

theorem made_bools (n : Nat) : (madeCells (Value.bool false).cells (n * 1)).toList = gl (fun _ => false) n := by
  apply List.ext_getElem
  · simp [madeCells, gl, Value.cells]
  · intro i h1 h2
    simp [madeCells, gl, Value.cells, Nat.mod_one]

theorem info_bool : (Try.prog.info? 4).map (fun i => (i.zero, i.size, i.bytes)) = some (some (.bool false), 1, 1) := by kernel_rfl

theorem gl_cell {w : World} {B E : Nat} {b cap n : Nat} {g : Nat → Bool} (h : w.ownsRow B E 1 (.slice (some ⟨b, 0, none⟩) n cap) n (gl g n)) {j : Nat} (hj : j < n) : w.cell? ⟨b, j, none⟩ = some (.bool (g j)) := by
  have := h.cellAt j (by omega)
  rw [this]
  simp [gl, hj]

theorem noDigit_bools {w : World} {B E : Nat} {n : Nat} {v : Value} {g : Nat → Bool} (h : w.ownsRow B E 1 v n (gl g n)) (hn : 0 < n) : NoDigit w v.ownBlock := by
  intro b hb d
  rcases h.2 with ⟨rfl, _⟩ | ⟨g', cap, cur, rfl, _⟩
  · cases hb
  · simp only [Value.ownBlock, Option.some.injEq] at hb
    subst hb
    rw [gl_cell h hn]
    intro e; cases e

theorem cut_cell {w : World} {B : Nat} {b cap n : Nat} {r : Nat → Int} {c : Nat → Value × Value} (h : CutRow w (.slice (some ⟨b, 0, none⟩) n cap) B n r c) {j : Nat} (hj : j < n) :
    ∃ (a : Option Addr) (l cp : Nat) (m : Bool), w.cell? ⟨b, j * 2, none⟩ = some (.slice a l cp) ∧ w.cell? ⟨b, j * 2 + 1, none⟩ = some (.bool m) ∧ NumAt w (.agg #[.slice a l cp, .bool m]) (r j) := by
  obtain ⟨a, l, cp, m, e, hn⟩ := h.2 j hj
  obtain ⟨h1, h2⟩ := pcells_get c hj
  rw [e] at h1 h2
  exact ⟨a, l, cp, m, by rw [h.1.cellAt _ (by omega)]; exact h1, by rw [h.1.cellAt _ (by omega)]; exact h2, hn⟩

/-- all cents are out: the shares -/
theorem ol_shares {T : Int} {zs : List Int} {g : Nat → Bool} (hc : Closed (rstS T (sumF (wgt zs) zs.length) (wgt zs)) zs.length g) (hk : cnt g zs.length = (leftS T (sumF (wgt zs) zs.length) (wgt zs) zs.length).toNat) :
    ol (quoS T (sumF (wgt zs) zs.length) (wgt zs)) g zs.length = sharesL T zs := by
  unfold ol sharesL
  refine List.map_congr_left fun i hi => ?_
  rw [closed_rank hc hk (List.mem_range.1 hi)]
  unfold shareS
  by_cases c : rank (rstS T (sumF (wgt zs) zs.length) (wgt zs)) zs.length i < (leftS T (sumF (wgt zs) zs.length) (wgt zs) zs.length).toNat
  · simp [c]
  · simp [c]
end Go.Proofs.Ytkmoibikempieaa
