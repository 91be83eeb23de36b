/- A disk and its model, side by side. -/
import Derived.Test.YtehfbafocbcfnaaDiskUp
import Derived.Test.YtehfbafocbcfnaaPackRow
import Derived.Deep.RegionHeld3
namespace Go.Proofs.Ytehfbafocbcfnaa
open Go Go.RowKit
set_option linter.unusedVariables false

/-- a disk and a model: of what was there at W0 nothing has turned but in blocks of X -/
structure Pair (D : Nat → (Nat → Prop) → Addr → Dsk → World → Prop) (n : Nat) (d : Addr) (G : Lies) (s t : Dsk) (X : Nat → Prop) (W0 W : World) : Prop where
  at' : ∃ F, D n F d s W ∧ (∀ k, F k → X k ∨ W0.heap.size ≤ k) ∧ ∀ k, F k → ¬ G.all k
  md : MAt n G t W
  low : ∀ k, G.all k → X k ∨ W0.heap.size ≤ k
  only : Only X W0 W

section
variable {D : Nat → (Nat → Prop) → Addr → Dsk → World → Prop} {n : Nat} {d : Addr} {G : Lies} {s t : Dsk} {X : Nat → Prop} {w W W' : World}

theorem Pair.up (C : DiskC D) (h : Pair D n d G s t X w W) (hb : Below W.heap.size W W') : Pair D n d G s t X w W' := by
  obtain ⟨⟨F, h1, h2, h3⟩, h4, h5, h6⟩ := h
  exact ⟨⟨F, C.up h1 hb, h2, h3⟩, h4.up hb, h5, h6.trans (Only.of_below hb)⟩
theorem Pair.drewN (C : DiskC D) (h : Pair D n d G s t X w W) (q : Nat) : Pair D n d G s t X w (W.drewN q) := h.up C (below_drewN (Below.refl _ _) q)
theorem Pair.below (h : Pair D n d G s t (fun _ => False) w W) : Below w.heap.size w W := h.only.below (Nat.le_refl _) fun _ hf => hf.elim

theorem only_step {F : Nat → Prop} (h6 : Only X w W) (ho : Only F W W') (h2 : ∀ k, F k → X k ∨ w.heap.size ≤ k) : Only X w W' :=
  ⟨ho.os.trans h6.os, ho.tape.trans h6.tape, ho.output.trans h6.output, Nat.le_trans h6.size ho.size, fun k hk hX => (ho.block k (Nat.lt_of_lt_of_le hk h6.size) fun hf => (h2 k hf).elim hX fun h => by omega).trans (h6.block k hk hX)⟩

/-- the disk has turned -/
theorem Pair.left {F F' : Nat → Prop} {s' : Dsk} (h2 : ∀ k, F k → X k ∨ w.heap.size ≤ k) (h3 : ∀ k, F k → ¬ G.all k) (h4 : MAt n G t W) (h5 : ∀ k, G.all k → X k ∨ w.heap.size ≤ k) (h6 : Only X w W)
    (ho : Only F W W') (hF' : ∀ k, F' k → F k ∨ W.heap.size ≤ k) (hd : D n F' d s' W') : Pair D n d G s' t X w W' :=
  ⟨⟨F', hd, fun k hk => (hF' k hk).elim (h2 k) fun h' => Or.inr (Nat.le_trans h6.size h'), fun k hk hg => (hF' k hk).elim (fun h => h3 k h hg) fun h' => by have := h4.lt k hg; omega⟩, h4.only ho h3, h5, only_step h6 ho h2⟩
/-- the model has turned -/
theorem Pair.right (C : DiskC D) {t' : Dsk} (h : Pair D n d G s t X w W) (ho : Only G.all W W') (hm : MAt n G t' W') : Pair D n d G s t' X w W' := by
  obtain ⟨⟨F, h1, h2, h3⟩, h4, h5, h6⟩ := h
  exact ⟨⟨F, C.keep h1 ho fun k hg hf => h3 k hf hg, h2, h3⟩, hm, h5, only_step h6 ho h5⟩
/-- a base of its own, where all that is theirs may turn -/
theorem Pair.rebase (C : DiskC D) (h : Pair D n d G s t X w W) : ∃ Y : Nat → Prop, Pair D n d G s t Y W W ∧ (∀ k, Y k → k < W.heap.size) ∧ ∀ k, Y k → X k ∨ w.heap.size ≤ k := by
  obtain ⟨⟨F, h1, h2, h3⟩, h4, h5, h6⟩ := h
  exact ⟨fun k => F k ∨ G.all k, ⟨⟨F, h1, fun k hk => Or.inl (Or.inl hk), h3⟩, h4, fun k hk => Or.inl (Or.inr hk), Only.refl _ _⟩, fun k hk => hk.elim (C.lt h1 k) (h4.lt k), fun k hk => hk.elim (h2 k) (h5 k)⟩
theorem Pair.rebox (C : DiskC D) (h : Pair D n d G s t X w W) (o : Obj) : ∃ Y : Nat → Prop, Pair D n d G s t Y (W.alloc o) (W.alloc o) ∧ (∀ k, Y k → k < W.heap.size) ∧ ∀ k, Y k → X k ∨ w.heap.size ≤ k := by
  obtain ⟨⟨F, h1, h2, h3⟩, h4, h5, h6⟩ := h
  have hb : Below W.heap.size W (W.alloc o) := (Below.refl _ _).alloc (Nat.le_refl _) _
  exact ⟨fun k => F k ∨ G.all k, ⟨⟨F, C.up h1 hb, fun k hk => Or.inl (Or.inl hk), h3⟩, h4.up hb, fun k hk => Or.inl (Or.inr hk), Only.refl _ _⟩, fun k hk => hk.elim (C.lt h1 k) (h4.lt k), fun k hk => hk.elim (h2 k) (h5 k)⟩
theorem Pair.join {Y : Nat → Prop} {s' t' : Dsk} (h : Only X w W) (k : Pair D n d G s' t' Y W W') (hY : ∀ i, Y i → X i ∨ w.heap.size ≤ i) : Pair D n d G s' t' X w W' := by
  obtain ⟨⟨F, h1, h2, h3⟩, h4, h5, h6⟩ := k
  refine ⟨⟨F, h1, fun i hi => (h2 i hi).elim (hY i) fun h' => Or.inr (Nat.le_trans h.size h'), h3⟩, h4, fun i hi => (h5 i hi).elim (hY i) fun h' => Or.inr (Nat.le_trans h.size h'), only_step h h6 hY⟩

/-- a row that was handed in is none of theirs -/
def Far (X : Nat → Prop) (a : Option Addr) (m : Nat) : Prop := ∀ x, a = some x → m = 0 ∨ ¬ X x.block
theorem Far.cells {a : Option Addr} {m : Nat} {vs : List Value} {F : Nat → Prop} (hb : Cells w a m vs) (hX : Far X a m) (hF : ∀ k, F k → X k ∨ w.heap.size ≤ k) : ∀ x, a = some x → m = 0 ∨ ¬ F x.block := fun x hx => by
  rcases hb.2 with h0 | ⟨b, off, e, hcc⟩
  · exact Or.inl h0
  · by_cases h0 : m = 0
    · exact Or.inl h0
    · refine Or.inr fun hf => ?_
      have hx' := (hX x hx).resolve_left h0
      rw [hx] at e
      cases e
      have := cell_lt (hcc 0 (by omega))
      rcases hF _ hf with h | h
      · exact hx' h
      · simp at *; omega
theorem Far.elems {a : Option Addr} {m : Nat} {vs : List Int} {F : Nat → Prop} (hb : Elems w a m vs) (hX : Far X a m) (hF : ∀ k, F k → X k ∨ w.heap.size ≤ k) : ∀ x, a = some x → m = 0 ∨ ¬ F x.block := fun x hx => by
  rcases hb.2.2 with h0 | ⟨b, off, e, hcc⟩
  · exact Or.inl h0
  · by_cases h0 : m = 0
    · exact Or.inl h0
    · refine Or.inr fun hf => ?_
      have hx' := (hX x hx).resolve_left h0
      rw [hx] at e
      cases e
      have := cell_lt (hcc 0 (by omega))
      rcases hF _ hf with h | h
      · exact hx' h
      · simp at *; omega
theorem Cells.only {a : Option Addr} {m : Nat} {vs : List Value} (hb : Cells w a m vs) (hX : Far X a m) (ho : Only X w W) : Cells W a m vs := by
  refine ⟨hb.1, ?_⟩
  rcases hb.2 with h0 | ⟨b, off, rfl, hcc⟩
  · exact Or.inl h0
  · by_cases h0 : m = 0
    · exact Or.inl h0
    · refine Or.inr ⟨b, off, rfl, fun j hj => ?_⟩
      rw [World.cell?_of_block (w := w) (ho.block b (cell_lt (hcc j hj)) ((hX _ rfl).resolve_left h0))]
      exact hcc j hj
theorem elems_only {a : Option Addr} {m : Nat} {vs : List Int} (hb : Elems w a m vs) (hX : Far X a m) (ho : Only X w W) : Elems W a m vs := by
  refine ⟨hb.1, hb.2.1, ?_⟩
  rcases hb.2.2 with h0 | ⟨b, off, rfl, hcc⟩
  · exact Or.inl h0
  · by_cases h0 : m = 0
    · exact Or.inl h0
    · refine Or.inr ⟨b, off, rfl, fun j hj => ?_⟩
      rw [World.cell?_of_block (w := w) (ho.block b (cell_lt (hcc j hj)) ((hX _ rfl).resolve_left h0))]
      exact hcc j hj

theorem Pair.write (C : DiskC D) (h : Pair D n d G s t X w W) (p : Int) (a : Option Addr) (m c : Nat) (bs : List Nat) (hp : i64d p)
    (hb : Cells w a m (bs.map b8)) (hX : Far X a m) (h256 : ∀ b ∈ bs, b < 256) (hc : m ≤ c) (hm : c ≤ maxLen) (hm2 : m ≤ 2000) :
    Calls Try.prog 15 #[.pointer (some d), .int .i64 p, .slice a m c] W fun e w' => ∃ k s', e = .returned (errv k) ∧ Pair D n d G s' t X w w' ∧ ((thereD n p m = true ∧ k = 0 ∧ s' = s.write p.toNat bs) ∨ (thereD n p m = false ∧ k = 1 ∧ s' = s)) := by
  obtain ⟨⟨F, h1, h2, h3⟩, h4, h5, h6⟩ := h
  refine (C.write p a m c bs h1 hp (hb.only hX h6) h256 (hX.cells hb h2) hc hm hm2).mono ?_
  rintro e w' ⟨ho, F', hF', ⟨g, rfl, hd⟩ | ⟨g, rfl, hd⟩⟩
  · exact ⟨0, _, rfl, Pair.left h2 h3 h4 h5 h6 ho hF' hd, Or.inl ⟨g, rfl, rfl⟩⟩
  · exact ⟨1, _, rfl, Pair.left h2 h3 h4 h5 h6 ho hF' hd, Or.inr ⟨g, rfl, rfl⟩⟩
theorem Pair.sync (C : DiskC D) (h : Pair D n d G s t X w W) :
    Calls Try.prog 16 #[.pointer (some d)] W fun e w' => e = .returned (.tuple #[]) ∧ Pair D n d G s.sync t X w w' := by
  obtain ⟨⟨F, h1, h2, h3⟩, h4, h5, h6⟩ := h
  refine (C.sync h1).mono ?_
  rintro e w' ⟨ho, F', hF', rfl, hd⟩
  exact ⟨rfl, Pair.left h2 h3 h4 h5 h6 ho hF' hd⟩
theorem Pair.crash (C : DiskC D) (h : Pair D n d G s t X w W) (a : Option Addr) (m c : Nat) (picks : List Int) (hb : Elems w a m picks) (hX : Far X a m) (hc : m ≤ c) (hm2 : m ≤ 2000) :
    Calls Try.prog 27 #[.pointer (some d), .slice a m c] W fun e w' => e = .returned (.tuple #[]) ∧ Pair D n d G (s.crash picks) t X w w' := by
  obtain ⟨⟨F, h1, h2, h3⟩, h4, h5, h6⟩ := h
  refine (C.crash a m c picks h1 (elems_only hb hX h6) (hX.elems hb h2) hc hm2).mono ?_
  rintro e w' ⟨ho, F', hF', rfl, hd⟩
  exact ⟨rfl, Pair.left h2 h3 h4 h5 h6 ho hF' hd⟩
theorem Pair.dirty (C : DiskC D) (h : Pair D n d G s t X w W) :
    Calls Try.prog 36 #[.pointer (some d)] W fun e w' => e = .returned (.int .i64 (s.many : Int)) ∧ Pair D n d G s t X w w' := by
  obtain ⟨F, h1, h2, h3⟩ := h.at'
  refine (C.dirty h1).mono ?_
  rintro e w' ⟨hb, rfl⟩
  exact ⟨rfl, h.up C hb⟩
theorem Pair.size (C : DiskC D) (h : Pair D n d G s t X w W) :
    Calls Try.prog 34 #[.pointer (some d)] W fun e w' => e = .returned (.int .i64 (64 * (n : Int))) ∧ Pair D n d G s t X w w' := by
  obtain ⟨F, h1, h2, h3⟩ := h.at'
  refine (C.size h1).mono ?_
  rintro e w' ⟨hb, rfl⟩
  exact ⟨rfl, h.up C hb⟩

/-- what was read lies there, and is a string -/
def Told (bs : List Nat) (a : Option Addr) (c : Nat) (W : World) : Prop := ∀ W', Below W.heap.size W W' → (convert 27 9 (.slice a bs.length c)).run Try.prog W' = .ok (.string (strB bs)) W'
theorem Told.up {bs : List Nat} {a : Option Addr} {c : Nat} {W W' : World} (h : Told bs a c W) (hb : Below W.heap.size W W') : Told bs a c W' := fun W2 h2 => h W2 (hb.trans (h2.mono hb.size))
theorem Told.run {bs : List Nat} {a : Option Addr} {c : Nat} {W : World} (h : Told bs a c W) : (convert 27 9 (.slice a bs.length c)).run Try.prog W = .ok (.string (strB bs)) W := h W (Below.refl _ _)

theorem Pair.read (C : DiskC D) (h : Pair D n d G s t X w W) (p m : Int) (hp : i64d p) (hm : i64d m) :
    Calls Try.prog 22 #[.pointer (some d), .int .i64 p, .int .i64 m] W fun e w' => Below W.heap.size W w' ∧ Pair D n d G s t X w w' ∧ ∃ k a q c, e = .returned (.tuple #[.slice a q c, errv k]) ∧
      ((thereD n p m = true ∧ k = 0 ∧ q = ((s.nw.drop p.toNat).take m.toNat).length ∧ Told ((s.nw.drop p.toNat).take m.toNat) a c w') ∨ (thereD n p m = false ∧ k = 1 ∧ q = 0)) := by
  obtain ⟨F, h1, h2, h3⟩ := h.at'
  refine (C.read p m h1 hp hm).mono ?_
  rintro e w' ⟨hb, ⟨g, v, rfl, ho⟩ | ⟨g, a, c, rfl⟩⟩
  · obtain ⟨pa, pc, rfl, hcl, -, -, -⟩ := own_bytes ho
    have hl : m.toNat = ((s.nw.drop p.toNat).take m.toNat).length := by have := hcl.1; rw [List.length_map] at this; exact this.symm
    refine ⟨hb, h.up C hb, 0, pa, m.toNat, pc, rfl, Or.inl ⟨g, rfl, hl, fun W' hW' => ?_⟩⟩
    refine run_str_row ?_
    rw [← hl]
    exact hcl.upB hW'
  · exact ⟨hb, h.up C hb, 1, a, 0, c, rfl, Or.inr ⟨g, rfl, rfl⟩⟩

/-- the model's -/
theorem Pair.many (C : DiskC D) (h : Pair D n d G s t X w W) :
    Calls Try.prog 37 #[.pointer (some ⟨G.g0, 0, none⟩)] W fun e w' => e = .returned (.int .i64 (t.many : Int)) ∧ Pair D n d G s t X w w' := by
  refine (refMany_any n G t W h.md).mono ?_
  rintro e w' ⟨rfl, q, rfl⟩
  exact ⟨rfl, h.drewN C q⟩
theorem Pair.mwrite (C : DiskC D) (h : Pair D n d G s t X w W) (p : Nat) (a : Option Addr) (m c : Nat) (bs : List Nat)
    (hb : Cells w a m (bs.map b8)) (hX : Far X a m) (hc : m ≤ c) (hp : p + m ≤ 64 * n) :
    Calls Try.prog 19 #[.pointer (some ⟨G.g0, 0, none⟩), .int .i64 (p : Int), .slice a m c] W fun e w' => e = .returned (.tuple #[]) ∧ Pair D n d G s (t.write p bs) X w w' := by
  refine (refWrite7_any n G t p a m c bs W h.md (hb.only hX h.only) (hX.cells hb h.low) hc hp).mono ?_
  rintro e w' ⟨rfl, hm, ho⟩
  exact ⟨rfl, h.right C ho hm⟩
theorem Pair.msync (C : DiskC D) (h : Pair D n d G s t X w W) :
    Calls Try.prog 20 #[.pointer (some ⟨G.g0, 0, none⟩)] W fun e w' => e = .returned (.tuple #[]) ∧ Pair D n d G s t.sync X w w' := by
  refine (refSync_any n G t W h.md).mono ?_
  rintro e w' ⟨rfl, hm, ho⟩
  exact ⟨rfl, h.right C ho hm⟩
theorem Pair.mcrash (C : DiskC D) (h : Pair D n d G s t X w W) (a : Option Addr) (m c : Nat) (picks : List Int) (hb : Elems w a m picks) (hX : Far X a m) (hc : m ≤ c) (hm2 : m ≤ 2000) :
    Calls Try.prog 33 #[.pointer (some ⟨G.g0, 0, none⟩), .slice a m c] W fun e w' => e = .returned (.tuple #[]) ∧ Pair D n d G s (t.crash picks) X w w' := by
  refine (refCrash_any n G t a m c picks W h.md (elems_only hb hX h.only) (hX.elems hb h.low) hc (by omega)).mono ?_
  rintro e w' ⟨rfl, hm, ho⟩
  exact ⟨rfl, h.right C ho hm⟩
end
end Go.Proofs.Ytehfbafocbcfnaa
