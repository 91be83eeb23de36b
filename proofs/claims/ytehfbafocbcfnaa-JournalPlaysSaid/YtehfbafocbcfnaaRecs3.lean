/- Rows of records whose bytes may be another's. -/
import Derived.Test.YtehfbafocbcfnaaRecs2
import Derived.Test.YtehfbafocbcfnaaJrnRef4
namespace Go.Proofs.Ytehfbafocbcfnaa
open Go Go.RowKit
set_option linter.unusedVariables false

def MixRecs (B : Nat) (v : Value) (vs : List Value) (rs : List (List Nat)) (w : World) : Prop :=
  w.ownsRow B 27 1 v rs.length vs ∧ ∀ j, j < rs.length → ∃ aj cj, vs.getD j undef = .slice aj (rs.getD j []).length cj ∧ Cells w aj (rs.getD j []).length ((rs.getD j []).map b8) ∧ ∀ x, aj = some x → (rs.getD j []).length = 0 ∨ v.ownBlock ≠ some x.block

theorem MixRecs.nil (B : Nat) (w : World) : MixRecs B (.slice none 0 0) [] [] w := ⟨World.ownsRow_nil _ _ _ _, fun j hj => by simp at hj⟩
theorem OwnRecs.mix {B : Nat} {v : Value} {rs : List (List Nat)} {w : World} (h : OwnRecs B v rs w) : ∃ vs, MixRecs B v vs rs w := by
  obtain ⟨vs, h1, h2⟩ := h
  refine ⟨vs, h1, fun j hj => ?_⟩
  obtain ⟨q1, q2⟩ := h2 j hj
  obtain ⟨a, c, e, hc, -⟩ := own_bytes q1
  refine ⟨a, c, e, hc, fun x hx => Or.inr ?_⟩
  refine q2 x.block ?_
  rw [e, hx]; rfl
theorem MixRecs.up {B : Nat} {v : Value} {vs : List Value} {rs : List (List Nat)} {w W : World} (h : MixRecs B v vs rs w) (hb : Below w.heap.size w W) : MixRecs B v vs rs W := by
  refine ⟨ownsRow_upB h.1 hb, fun j hj => ?_⟩
  obtain ⟨a, c, e, hc, hd⟩ := h.2 j hj
  exact ⟨a, c, e, hc.upB hb, hd⟩
theorem MixRecs.rows {B : Nat} {v : Value} {vs : List Value} {rs : List (List Nat)} {w : World} (h : MixRecs B v vs rs w) : ∃ a c, v = .slice a rs.length c ∧ rs.length ≤ c ∧ c ≤ maxLen ∧ (a = none → c = 0) ∧ RowsOf w a rs.length rs := by
  obtain ⟨h1, h2⟩ := h
  rcases h1.2 with ⟨rfl, h0⟩ | ⟨g, cap, cur, rfl, hB, hh, hc, hm, hr⟩
  · exact ⟨none, 0, by rw [h0], by omega, by simp [maxLen], fun _ => rfl, rfl, Or.inl h0⟩
  · refine ⟨_, cap, rfl, hc, hm, (fun h => by cases h), rfl, ?_⟩
    by_cases h0 : rs.length = 0
    · exact Or.inl h0
    · refine Or.inr ⟨g, 0, rfl, fun j hj => ?_⟩
      obtain ⟨aj, cj, e, hcj, -⟩ := h2 j hj
      refine ⟨aj, cj, ?_, hcj⟩
      have hvl : vs.length = rs.length := by have := h1.1; omega
      rw [Nat.zero_add, h1.cellAt j (by omega), ← e]
      simp [List.getD, show j < vs.length by omega]
theorem MixRecs.push {B : Nat} {v v' : Value} {rs : List (List Nat)} {vs : List Value} {a : Option Addr} {c : Nat} {b : List Nat} {w w' : World} (h : MixRecs B v vs rs w) (hs : Cells w a b.length (b.map b8)) (hsv : ∀ x, a = some x → b.length = 0 ∨ v.ownBlock ≠ some x.block)
    (h' : w'.ownsRow B 27 1 v' (rs.length + 1) (vs ++ [.slice a b.length c])) (hg : w.grownBy w' v.ownBlock) (ho : v'.ownBlock = v.ownBlock ∨ v'.ownBlock = some w.heap.size) : MixRecs B v' (vs ++ [.slice a b.length c]) (rs ++ [b]) w' := by
  obtain ⟨h1, h2⟩ := h
  have hvl : vs.length = rs.length := by have := h1.1; omega
  have ho2 := only_grown8 hg
  have keep : ∀ (x : Option Addr) (l : List Nat), Cells w x l.length (l.map b8) → (∀ y, x = some y → l.length = 0 ∨ v.ownBlock ≠ some y.block) → Cells w' x l.length (l.map b8) ∧ ∀ y, x = some y → l.length = 0 ∨ v'.ownBlock ≠ some y.block := fun x l hx hd => by
    rcases hx.2 with h0 | ⟨bb, off, rfl, hcc⟩
    · exact ⟨⟨hx.1, Or.inl h0⟩, fun y _ => Or.inl h0⟩
    · by_cases h0 : l.length = 0
      · exact ⟨⟨hx.1, Or.inl h0⟩, fun y _ => Or.inl h0⟩
      · have hne := (hd _ rfl).resolve_left h0
        have hlt := cell_lt (hcc 0 (by omega))
        simp at hlt hne
        refine ⟨⟨hx.1, Or.inr ⟨bb, off, rfl, fun j hj => ?_⟩⟩, fun y hy => Or.inr ?_⟩
        · rw [World.cell?_of_block (w := w) (ho2.block bb hlt hne)]
          exact hcc j hj
        · cases hy
          intro e
          simp at e
          rcases ho with ho | ho
          · exact hne (by rw [← ho]; exact e)
          · rw [ho] at e; cases e; omega
  refine ⟨by rw [List.length_append]; exact h', fun j hj => ?_⟩
  rw [List.length_append, List.length_singleton] at hj
  by_cases hlt : j < rs.length
  · have e1 : (vs ++ [Value.slice a b.length c]).getD j undef = vs.getD j undef := by simp [List.getD, List.getElem?_append_left (show j < vs.length by omega)]
    have e2 : (rs ++ [b]).getD j [] = rs.getD j [] := by simp [List.getD, List.getElem?_append_left hlt]
    rw [e1, e2]
    obtain ⟨aj, cj, e, hc, hd⟩ := h2 j hlt
    exact ⟨aj, cj, e, (keep _ _ hc hd).1, (keep _ _ hc hd).2⟩
  · obtain rfl : j = rs.length := by omega
    have e1 : (vs ++ [Value.slice a b.length c]).getD rs.length undef = .slice a b.length c := by simp [List.getD, ← hvl]
    have e2 : (rs ++ [b]).getD rs.length [] = b := by simp [List.getD]
    rw [e1, e2]
    exact ⟨a, c, rfl, (keep _ _ hs hsv).1, (keep _ _ hs hsv).2⟩
theorem MixRecs.pushm {B : Nat} {v v' : Value} {rs : List (List Nat)} {vs : List Value} {a : Option Addr} {m c k : Nat} {b : List Nat} {w w' : World} (hl : b.length = m) (hk : rs.length = k) (h : MixRecs B v vs rs w) (hs : Cells w a m (b.map b8)) (hsv : ∀ x, a = some x → m = 0 ∨ v.ownBlock ≠ some x.block)
    (h' : w'.ownsRow B 27 1 v' (k + 1) (vs ++ [.slice a m c])) (hg : w.grownBy w' v.ownBlock) (ho : v'.ownBlock = v.ownBlock ∨ v'.ownBlock = some w.heap.size) : MixRecs B v' (vs ++ [.slice a m c]) (rs ++ [b]) w' := by
  subst hl hk
  exact h.push hs hsv h' hg ho
/-- a slice that came in isn't the row's own -/
theorem MixRecs.old {B : Nat} {v : Value} {vs : List Value} {rs : List (List Nat)} {w w0 : World} {a : Option Addr} {m : Nat} {xs : List Value} (h : MixRecs B v vs rs w) (hB : w0.heap.size ≤ B) (ha : Cells w0 a m xs) : ∀ x, a = some x → m = 0 ∨ v.ownBlock ≠ some x.block := fun x hx => by
  rcases ha.2 with h0 | ⟨b, off, e, hcc⟩
  · exact Or.inl h0
  · by_cases h0 : m = 0
    · exact Or.inl h0
    · rw [hx] at e
      cases e
      have h3 := cell_lt (hcc 0 (by omega))
      refine Or.inr fun e' => ?_
      have h4 := (h.1.lt _ e').1
      simp at h3 h4
      omega
end Go.Proofs.Ytehfbafocbcfnaa
