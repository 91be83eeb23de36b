/- Records in memory of one's own; a piece of a slice of bytes. -/
import Derived.Test.YtehfbafocbcfnaaRecs
namespace Go.Proofs.Ytehfbafocbcfnaa
open Go Go.RowKit
set_option linter.unusedVariables false

theorem info_sb : (Try.prog.info? 27).map (fun i => (i.zero, i.size, i.bytes)) = some (some (.slice none 0 0), 1, 24) := by kernel_rfl
theorem Tsb : SliceT Try.prog 53 27 (.slice none 0 0) 24 := ⟨Try.underlying53, info_sb, by decide⟩

/-- records in memory of one's own: the row, and each record -/
def OwnRecs (B : Nat) (v : Value) (rs : List (List Nat)) (w : World) : Prop :=
  ∃ vs : List Value, w.ownsRow B 27 1 v rs.length vs ∧ ∀ j, j < rs.length → w.ownsRow B 5 1 (vs.getD j undef) (rs.getD j []).length ((rs.getD j []).map b8) ∧ ∀ g, (vs.getD j undef).ownBlock = some g → v.ownBlock ≠ some g
theorem OwnRecs.nil (B : Nat) (w : World) : OwnRecs B (.slice none 0 0) [] w := ⟨[], World.ownsRow_nil _ _ _ _, fun j hj => by simp at hj⟩
theorem OwnRecs.up {B : Nat} {v : Value} {rs : List (List Nat)} {w W : World} (h : OwnRecs B v rs w) (hb : Below w.heap.size w W) : OwnRecs B v rs W := by
  obtain ⟨vs, h1, h2⟩ := h
  exact ⟨vs, ownsRow_upB h1 hb, fun j hj => ⟨ownsRow_upB (h2 j hj).1 hb, (h2 j hj).2⟩⟩
theorem OwnRecs.mono {B B' : Nat} {v : Value} {rs : List (List Nat)} {w : World} (h : OwnRecs B v rs w) (hB : B' ≤ B) : OwnRecs B' v rs w := by
  obtain ⟨vs, h1, h2⟩ := h
  exact ⟨vs, ownsRow_monoB h1 hB, fun j hj => ⟨ownsRow_monoB (h2 j hj).1 hB, (h2 j hj).2⟩⟩
/-- to be read -/
theorem OwnRecs.rows {B : Nat} {v : Value} {rs : List (List Nat)} {w : World} (h : OwnRecs B v rs w) : ∃ a c, v = .slice a rs.length c ∧ rs.length ≤ c ∧ (a = none → c = 0) ∧ RowsOf w a rs.length rs := by
  obtain ⟨vs, h1, h2⟩ := h
  have hin : ∀ j, j < rs.length → ∃ aj cj, vs.getD j undef = .slice aj (rs.getD j []).length cj ∧ Cells w aj (rs.getD j []).length ((rs.getD j []).map b8) := fun j hj => by
    obtain ⟨aj, cj, e, hc, -⟩ := own_bytes (h2 j hj).1
    exact ⟨aj, cj, e, hc⟩
  rcases h1.2 with ⟨rfl, h0⟩ | ⟨g, cap, cur, rfl, hB, _, hc, _⟩
  · exact ⟨none, 0, by rw [h0], by omega, fun _ => rfl, rfl, Or.inl h0⟩
  · refine ⟨_, cap, rfl, hc, (fun h => by cases h), rfl, ?_⟩
    by_cases h0 : rs.length = 0
    · exact Or.inl h0
    · refine Or.inr ⟨g, 0, rfl, fun j hj => ?_⟩
      obtain ⟨aj, cj, e, hcj⟩ := hin j hj
      refine ⟨aj, cj, ?_, hcj⟩
      have hvl : vs.length = rs.length := by have := h1.1; omega
      rw [Nat.zero_add, h1.cellAt j (by omega), ← e]
      simp [List.getD, show j < vs.length by omega]
/-- one more is appended -/
theorem OwnRecs.push {B : Nat} {v v' s : Value} {rs : List (List Nat)} {vs : List Value} {b : List Nat} {w w' : World} (h1 : w.ownsRow B 27 1 v rs.length vs)
    (h2 : ∀ j, j < rs.length → w.ownsRow B 5 1 (vs.getD j undef) (rs.getD j []).length ((rs.getD j []).map b8) ∧ ∀ g, (vs.getD j undef).ownBlock = some g → v.ownBlock ≠ some g)
    (hs : w.ownsRow B 5 1 s b.length (b.map b8)) (hsv : ∀ g, s.ownBlock = some g → v.ownBlock ≠ some g)
    (h' : w'.ownsRow B 27 1 v' (rs.length + 1) (vs ++ [s])) (hg : w.grownBy w' v.ownBlock) (ho : v'.ownBlock = v.ownBlock ∨ v'.ownBlock = some w.heap.size) : OwnRecs B v' (rs ++ [b]) w' := by
  have hvl : vs.length = rs.length := by have := h1.1; omega
  have keep : ∀ (x : Value) (l : List Nat), w.ownsRow B 5 1 x l.length (l.map b8) → (∀ g, x.ownBlock = some g → v.ownBlock ≠ some g) → w'.ownsRow B 5 1 x l.length (l.map b8) ∧ ∀ g, x.ownBlock = some g → v'.ownBlock ≠ some g := fun x l hx hd => by
    constructor
    · refine hx.kept hg ?_
      rcases hx' : x.ownBlock with _ | g
      · exact Or.inl rfl
      · exact Or.inr fun e => hd g hx' e.symm
    · intro g hg2 e
      rcases ho with ho | ho
      · exact hd g hg2 (by rw [← ho]; exact e)
      · have := (hx.lt g hg2).2
        rw [ho] at e
        cases e
        omega
  refine ⟨vs ++ [s], by rw [List.length_append]; exact h', fun j hj => ?_⟩
  rw [List.length_append, List.length_singleton] at hj
  by_cases hlt : j < rs.length
  · have e1 : (vs ++ [s]).getD j undef = vs.getD j undef := by simp [List.getD, List.getElem?_append_left (show j < vs.length by omega)]
    have e2 : (rs ++ [b]).getD j [] = rs.getD j [] := by simp [List.getD, List.getElem?_append_left hlt]
    rw [e1, e2]
    exact keep _ _ (h2 j hlt).1 (h2 j hlt).2
  · obtain rfl : j = rs.length := by omega
    have e1 : (vs ++ [s]).getD rs.length undef = s := by simp [List.getD, ← hvl]
    have e2 : (rs ++ [b]).getD rs.length [] = b := by simp [List.getD]
    rw [e1, e2]
    exact keep _ _ hs hsv

theorem fnd_step {bs : List Nat} {p k : Nat} : fndN bs p (k + 1) = if headN (k + 1) = (bs.drop p).take 8 then k + 1 else fndN bs p k := rfl

/-- a piece of a slice of bytes -/
theorem slice_piece {a : Option Addr} {len cap P M : Nat} {bs : List Nat} {W : World} (hb : Cells W a len (bs.map b8)) (hPM : P + M ≤ len) (hc : len ≤ cap) (hM : 0 < M) :
    ∃ b o c, (∀ W', (Instr.slice 27 (.slice a len cap) (some (.int .i64 (P : Int))) (some (.int .i64 ((P : Int) + (M : Int)))) none).run Try.prog W' = .ok (.slice (some ⟨b, o, none⟩) M c) W') ∧ Cells W (some ⟨b, o, none⟩) M (((bs.drop P).take M).map b8) := by
  have hz : ∀ w, (Go.sizeOf 5).run Try.prog w = .ok 1 w := fun w => by first | exact Try.sizeOf5 w | exact Try.sizeOf5 | simp [Try.sizeOf5]
  have ht' : Try.prog.underlying 27 = some (.slice (Try.prog.elem 27)) := by simp [Program.elem, Try.underlying27]
  have he : Try.prog.elem 27 = 5 := by simp [Program.elem, Try.underlying27]
  have hbl : bs.length = len := by have := hb.1; rwa [List.length_map] at this
  obtain ⟨b, o, rfl, hcell⟩ := hb.2.resolve_left (by omega)
  have hlen : (((bs.drop P).take M).map b8).length = M := by simp; omega
  refine ⟨b, o + P, cap - P, fun W' => ?_, hlen, Or.inr ⟨b, o + P, rfl, fun j hj => ?_⟩⟩
  · rw [run_slice_lh W' 27 _ _ _ ht' .i64 .i64 _ _ (by omega) (by omega) (by omega), he, hz]
    have hne : ¬ cap = P := by omega
    by_cases h0 : P = 0
    · subst h0
      simp [Result.andThen, sliced, Addr.add, show ¬ cap = 0 by omega]
    · simp [Result.andThen, sliced, Addr.add, hne, h0]
      try omega
  · rw [Nat.add_assoc, hcell (P + j) (by omega)]
    simp [List.getD, hj, show P + j < bs.length by omega]
end Go.Proofs.Ytehfbafocbcfnaa
