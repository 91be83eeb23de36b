/- Blocks of memory known whole, and what is written but in some blocks. -/
import Derived.Test.YtcdkgfjjgebcnaaDoorBytes
namespace Go.Proofs.YtcdkgfjjgebcnaaDoor
open Go Go.RowKit
set_option linter.unusedVariables false

/-- of what was there nothing has turned, but in blocks of F -/
structure Only (F : Nat → Prop) (w w' : World) : Prop where
  os : w'.os = w.os
  tape : w'.tape = w.tape
  output : w'.output = w.output
  size : w.heap.size ≤ w'.heap.size
  block : ∀ k, k < w.heap.size → ¬ F k → w'.heap[k]? = w.heap[k]?

theorem Only.refl (F : Nat → Prop) (w : World) : Only F w w := ⟨rfl, rfl, rfl, Nat.le_refl _, fun _ _ _ => rfl⟩
theorem Only.trans {F : Nat → Prop} {a b c : World} (h : Only F a b) (k : Only F b c) : Only F a c :=
  ⟨k.os.trans h.os, k.tape.trans h.tape, k.output.trans h.output, Nat.le_trans h.size k.size, fun i hi hF => (k.block i (Nat.lt_of_lt_of_le hi h.size) hF).trans (h.block i hi hF)⟩
theorem Only.mono {F G : Nat → Prop} {a b : World} (h : Only F a b) (hF : ∀ k, k < a.heap.size → F k → G k) : Only G a b :=
  ⟨h.os, h.tape, h.output, h.size, fun i hi hG => h.block i hi fun hf => hG (hF i hi hf)⟩
theorem Only.drewN {F : Nat → Prop} {a b : World} (h : Only F a b) (n : Nat) : Only F a (b.drewN n) := by
  refine h.trans ?_
  have := below_drewN (Below.refl b.heap.size b) n
  exact ⟨this.os, this.tape, this.output, this.size, fun i hi _ => this.block i hi⟩
theorem Only.drew {F : Nat → Prop} {a b : World} (h : Only F a b) : Only F a b.drew := h.drewN 1
theorem Only.setCell {F : Nat → Prop} {a b : World} (h : Only F a b) {p : Addr} (hp : F p.block) (u : Value) : Only F a (b.setCell p u) :=
  h.trans ⟨rfl, rfl, rfl, by simp [World.setCell], fun k hk hF => Below.heap_setCell _ _ _ _ (fun e => hF (by rw [e]; exact hp))⟩
theorem Only.alloc {F : Nat → Prop} {a b : World} (h : Only F a b) (o : Obj) : Only F a (b.alloc o) :=
  h.trans ⟨rfl, rfl, rfl, by simp, fun k hk _ => Below.heap_alloc _ _ _ hk⟩
theorem Only.of_below {F : Nat → Prop} {a b : World} (h : Below a.heap.size a b) : Only F a b := ⟨h.os, h.tape, h.output, h.size, fun k hk _ => h.block k hk⟩
/-- what is kept below a number -/
theorem Only.below {F : Nat → Prop} {B : Nat} {a b : World} (h : Only F a b) (hB : B ≤ a.heap.size) (hF : ∀ k, F k → B ≤ k) : Below B a b :=
  ⟨h.os, h.tape, h.output, h.size, fun k hk => h.block k (by omega) fun hf => by have := hF k hf; omega⟩

/-- a block's cells, all of them -/
def Row (g : Nat) (e : TypeId) (xs : List Value) (w : World) : Prop := w.heap[g]? = some (.cells xs.toArray e (0, 0))

theorem Row.lt {g : Nat} {e : TypeId} {xs : List Value} {w : World} (h : Row g e xs w) : g < w.heap.size := by
  rcases Nat.lt_or_ge g w.heap.size with h' | h'
  · exact h'
  · unfold Row at h; rw [Array.getElem?_eq_none h'] at h; cases h
theorem Row.only {F : Nat → Prop} {g : Nat} {e : TypeId} {xs : List Value} {w w' : World} (h : Row g e xs w) (ho : Only F w w') (hF : ¬ F g) : Row g e xs w' := by
  unfold Row; rw [ho.block g h.lt hF]; exact h
theorem Row.up {g : Nat} {e : TypeId} {xs : List Value} {w w' : World} (h : Row g e xs w) (hb : Below w.heap.size w w') : Row g e xs w' := by
  unfold Row; rw [hb.block g h.lt]; exact h
theorem Row.drewN {g : Nat} {e : TypeId} {xs : List Value} {w : World} (h : Row g e xs w) (n : Nat) : Row g e xs (w.drewN n) := h.up (below_drewN (Below.refl _ _) n)
theorem Row.cell {g : Nat} {e : TypeId} {xs : List Value} {w : World} (h : Row g e xs w) {j : Nat} (hj : j < xs.length) : w.cell? ⟨g, j, none⟩ = some (xs.getD j undef) := by
  unfold Row at h
  simp [World.cell?, h, List.getD, hj]
theorem Row.frozen {g : Nat} {e : TypeId} {xs : List Value} {w : World} (h : Row g e xs w) (j : Nat) : w.frozen? ⟨g, j, none⟩ = false := by
  unfold Row at h
  simp [World.frozen?, h]
theorem Row.set {g : Nat} {e : TypeId} {xs : List Value} {w : World} (h : Row g e xs w) (j : Nat) (v : Value) : Row g e (xs.set j v) (w.setCell ⟨g, j, none⟩ v) := by
  unfold Row at h ⊢
  simp only [World.setCell, Array.getElem?_modify, if_pos, h]
  simp
theorem Row.setOther {g : Nat} {e : TypeId} {xs : List Value} {w : World} (h : Row g e xs w) {p : Addr} (hp : p.block ≠ g) (v : Value) : Row g e xs (w.setCell p v) := by
  unfold Row at h ⊢
  rw [Below.heap_setCell _ _ _ _ (fun e => hp e.symm)]; exact h
theorem Row.alloc {g : Nat} {e : TypeId} {xs : List Value} {w : World} (h : Row g e xs w) (o : Obj) : Row g e xs (w.alloc o) := h.up ((Below.refl _ _).alloc (Nat.le_refl _) o)
theorem Row.new (w : World) (xs : List Value) (e : TypeId) : Row w.heap.size e xs (w.alloc (Obj.cells xs.toArray e)) := by
  unfold Row
  show (w.heap.push _)[w.heap.size]? = _
  simp
end Go.Proofs.YtcdkgfjjgebcnaaDoor
