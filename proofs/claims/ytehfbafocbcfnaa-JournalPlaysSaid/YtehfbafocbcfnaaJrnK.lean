/- A disk and its journal beside rows of the law's own, in blocks of K. -/
import Derived.Test.YtehfbafocbcfnaaJrnC
import Derived.Test.YtehfbafocbcfnaaRecs3
namespace Go.Proofs.Ytehfbafocbcfnaa
open Go Go.RowKit
set_option linter.unusedVariables false

section
variable {D : Nat → (Nat → Prop) → Addr → Dsk → World → Prop} {J : Nat → (Nat → Prop) → Addr → Addr → Jr → World → Prop} {n : Nat} {d j : Addr} {s : Dsk} {r : Jr} {K K' : Nat → Prop} {w W W' : World}

structure DH (D : Nat → (Nat → Prop) → Addr → Dsk → World → Prop) (n : Nat) (d : Addr) (s : Dsk) (K : Nat → Prop) (w W : World) : Prop where
  at' : ∃ F, D n F d s W ∧ (∀ k, F k → w.heap.size ≤ k) ∧ ∀ k, F k → ¬ K k
  kp : ∀ k, K k → w.heap.size ≤ k
  below : Below w.heap.size w W
structure JH (D : Nat → (Nat → Prop) → Addr → Dsk → World → Prop) (J : Nat → (Nat → Prop) → Addr → Addr → Jr → World → Prop) (n : Nat) (d j : Addr) (s : Dsk) (r : Jr) (K : Nat → Prop) (w W : World) : Prop where
  at' : ∃ F E, D n F d s W ∧ J n E j d r W ∧ (∀ k, F k → w.heap.size ≤ k) ∧ (∀ k, E k → w.heap.size ≤ k) ∧ (∀ k, E k → ¬ F k) ∧ (∀ k, F k → ¬ K k) ∧ ∀ k, E k → ¬ K k
  kp : ∀ k, K k → w.heap.size ≤ k
  below : Below w.heap.size w W

theorem JHold.k (h : JHold D J n d j s r w W) : JH D J n d j s r (fun _ => False) w W := by
  obtain ⟨⟨F, E, h1, h2, h3, h4, h5⟩, h6⟩ := h
  exact ⟨⟨F, E, h1, h2, h3, h4, h5, fun _ _ h => h, fun _ _ h => h⟩, fun _ h => h.elim, h6⟩
theorem JH.disk (h : JH D J n d j s r K w W) : DH D n d s K w W := by
  obtain ⟨⟨F, E, h1, h2, h3, h4, h5, h6, h7⟩, h8, h9⟩ := h
  exact ⟨⟨F, h1, h3, h6⟩, h8, h9⟩
/-- what the law does of its own: blocks of K turn, others are new -/
theorem JH.own (DC : DiskC D) (JC : JrnC D J) (h : JH D J n d j s r K w W) (ho : Only K W W') (hK : ∀ k, K' k → K k ∨ W.heap.size ≤ k) : JH D J n d j s r K' w W' := by
  obtain ⟨⟨F, E, h1, h2, h3, h4, h5, h6, h7⟩, h8, h9⟩ := h
  have q1 : ∀ k, F k → ¬ K' k := fun k hk hk' => (hK k hk').elim (h6 k hk) fun h' => by have := DC.lt h1 k hk; omega
  have q2 : ∀ k, E k → ¬ K' k := fun k hk hk' => (hK k hk').elim (h7 k hk) fun h' => by have := JC.lt h2 k hk; omega
  exact ⟨⟨F, E, DC.keep h1 ho fun k hk hf => h6 k hf hk, JC.keep h2 ho fun k hk hf => h7 k hf hk, h3, h4, h5, q1, q2⟩, fun k hk => (hK k hk).elim (h8 k) fun h' => Nat.le_trans h9.size h', h9.trans (ho.below h9.size h8)⟩
theorem DH.own (DC : DiskC D) (h : DH D n d s K w W) (ho : Only K W W') (hK : ∀ k, K' k → K k ∨ W.heap.size ≤ k) : DH D n d s K' w W' := by
  obtain ⟨⟨F, h1, h3, h6⟩, h8, h9⟩ := h
  have q1 : ∀ k, F k → ¬ K' k := fun k hk hk' => (hK k hk').elim (h6 k hk) fun h' => by have := DC.lt h1 k hk; omega
  exact ⟨⟨F, DC.keep h1 ho fun k hk hf => h6 k hf hk, h3, q1⟩, fun k hk => (hK k hk).elim (h8 k) fun h' => Nat.le_trans h9.size h', h9.trans (ho.below h9.size h8)⟩
theorem JH.up (DC : DiskC D) (JC : JrnC D J) (h : JH D J n d j s r K w W) (hb : Below W.heap.size W W') : JH D J n d j s r K w W' := h.own DC JC (Only.of_below hb) fun k hk => Or.inl hk
theorem DH.up (DC : DiskC D) (h : DH D n d s K w W) (hb : Below W.heap.size W W') : DH D n d s K w W' := h.own DC (Only.of_below hb) fun k hk => Or.inl hk

/-- what a call leaves as it was -/
def Lets (K : Nat → Prop) (w W W' : World) : Prop := ∃ X : Nat → Prop, Only X W W' ∧ (∀ k, X k → ¬ K k) ∧ ∀ k, X k → w.heap.size ≤ k
theorem Lets.below (h : Lets K w W W') (hb : Below w.heap.size w W) : Below w.heap.size w W' := by
  obtain ⟨X, h1, h2, h3⟩ := h
  exact hb.trans (h1.below hb.size h3)
theorem Lets.of_below (hb : Below W.heap.size W W') : Lets K w W W' := ⟨fun _ => False, Only.of_below hb, fun _ h => h.elim, fun _ h => h.elim⟩
theorem cells_keep {a : Option Addr} {m : Nat} {vs : List Value} {X : Nat → Prop} (hb : Cells W a m vs) (hX : ∀ x, a = some x → m = 0 ∨ ¬ X x.block) (ho : Only X W W') : Cells W' a m vs := by
  refine ⟨hb.1, ?_⟩
  rcases hb.2 with h0 | ⟨b, off, rfl, hcc⟩
  · exact Or.inl h0
  · by_cases h0 : m = 0
    · exact Or.inl h0
    · refine Or.inr ⟨b, off, rfl, fun j hj => ?_⟩
      rw [World.cell?_of_block (w := W) (ho.block b (cell_lt (hcc j hj)) ((hX _ rfl).resolve_left h0))]
      exact hcc j hj
/-- a row of the law's own -/
theorem MixRecs.lets {B : Nat} {v : Value} {vs : List Value} {rs : List (List Nat)} {w0 : World} (h : MixRecs B v vs rs W) (hl : Lets K w0 W W') (hv : ∀ k, v.ownBlock = some k → K k)
    (hin : ∀ i, i < rs.length → ∀ x a c, vs.getD i undef = .slice a (rs.getD i []).length c → a = some x → (rs.getD i []).length = 0 ∨ K x.block ∨ x.block < w0.heap.size) : MixRecs B v vs rs W' := by
  obtain ⟨X, h1, h2, h3⟩ := hl
  refine ⟨ownsRow_only h.1 h1 fun g hg hx => h2 g hx (hv g hg), fun i hi => ?_⟩
  obtain ⟨a, c, e, hc, hd⟩ := h.2 i hi
  refine ⟨a, c, e, cells_keep hc (fun x hx => ?_) h1, hd⟩
  rcases hin i hi x a c e hx with h0 | h0 | h0
  · exact Or.inl h0
  · exact Or.inr fun hX => h2 _ hX h0
  · exact Or.inr fun hX => by have := h3 _ hX; omega

/-- a slice that is neither the disk's nor the journal's -/
def Mine2 (K : Nat → Prop) (w : World) (a : Option Addr) (m : Nat) : Prop := ∀ x, a = some x → m = 0 ∨ K x.block ∨ x.block < w.heap.size
theorem Mine2.old {a : Option Addr} {m : Nat} {vs : List Value} (hb : Cells w a m vs) : Mine2 K w a m := fun x hx => by
  rcases hb.2 with h0 | ⟨b, off, e, hcc⟩
  · exact Or.inl h0
  · by_cases h0 : m = 0
    · exact Or.inl h0
    · rw [hx] at e
      cases e
      have := cell_lt (hcc 0 (by omega))
      exact Or.inr (Or.inr this)

theorem JH.append (JC : JrnC D J) (h : JH D J n d j s r K w W) (hlt : ∀ k, K k → k < W.heap.size) (a : Option Addr) (m c : Nat) (b : List Nat) (hb : Cells W a m (b.map b8)) (hmine : Mine2 K w a m) (h256 : ∀ x ∈ b, x < 256) (hc : m ≤ c) (hm : c ≤ maxLen) :
    Calls Try.prog 25 #[.pointer (some j), .slice a m c] W fun e w' => ∃ s' r', e = .returned (errv (mayN n r b : Int)) ∧ JH D J n d j s' r' K w w' ∧ Lets K w W w' ∧
      ((mayN n r b = 0 ∧ s' = stgS s r b 4 ∧ r' = stgR r b 4) ∨ (mayN n r b ≠ 0 ∧ s' = s ∧ r' = r)) := by
  obtain ⟨⟨F, E, h1, h2, h3, h4, h5, h6, h7⟩, h8, h9⟩ := h
  have hfar : Far2 F E a m := fun x hx => (hmine x hx).imp id fun h => h.elim (fun hk => ⟨fun hf => h6 _ hf hk, fun hf => h7 _ hf hk⟩) fun hk => ⟨fun hf => by have := h3 _ hf; omega, fun hf => by have := h4 _ hf; omega⟩
  refine (JC.append a m c b h1 h2 h5 hb h256 hfar hc hm).mono ?_
  rintro e w' ⟨ho, F', E', hF', hE', hd, rfl, hor⟩
  have hlets : Lets K w W w' := ⟨_, ho, fun k hk hK => hk.elim (fun h' => h6 k h' hK) fun h' => h7 k h' hK, fun k hk => hk.elim (h3 k) (h4 k)⟩
  have q : ∀ {s' r'}, D n F' d s' w' → J n E' j d r' w' → JH D J n d j s' r' K w w' := fun q1 q2 =>
    ⟨⟨F', E', q1, q2, fun k hk => (hF' k hk).elim (h3 k) fun h' => Nat.le_trans h9.size h', fun k hk => (hE' k hk).elim (h4 k) fun h' => Nat.le_trans h9.size h', hd,
      fun k hk hK => (hF' k hk).elim (fun h' => h6 k h' hK) fun h' => by have := hlt k hK; omega, fun k hk hK => (hE' k hk).elim (fun h' => h7 k h' hK) fun h' => by have := hlt k hK; omega⟩, h8, hlets.below h9⟩
  rcases hor with ⟨e0, q1, q2⟩ | ⟨e0, q1, q2⟩
  · exact ⟨_, _, rfl, q q1 q2, hlets, Or.inl ⟨e0, rfl, rfl⟩⟩
  · exact ⟨_, _, rfl, q q1 q2, hlets, Or.inr ⟨e0, rfl, rfl⟩⟩
theorem JH.start (JC : JrnC D J) (h : JH D J n d j s r K w W) (hlt : ∀ k, K k → k < W.heap.size) (a : Option Addr) (m c : Nat) (b : List Nat) (k : Int) (hk : i64d k) (hb : Cells W a m (b.map b8)) (hmine : Mine2 K w a m) (h256 : ∀ x ∈ b, x < 256) (hc : m ≤ c) (hm : c ≤ maxLen) :
    Calls Try.prog 26 #[.pointer (some j), .slice a m c, .int .i64 k] W fun e w' => ∃ s' r', e = .returned (errv (startN n r b k : Int)) ∧ JH D J n d j s' r' K w w' ∧ Lets K w W w' ∧
      ((startN n r b k = 0 ∧ s' = stgS s r b k ∧ r' = stgR r b k) ∨ (startN n r b k ≠ 0 ∧ s' = s ∧ r' = r)) := by
  obtain ⟨⟨F, E, h1, h2, h3, h4, h5, h6, h7⟩, h8, h9⟩ := h
  have hfar : Far2 F E a m := fun x hx => (hmine x hx).imp id fun h => h.elim (fun hk => ⟨fun hf => h6 _ hf hk, fun hf => h7 _ hf hk⟩) fun hk => ⟨fun hf => by have := h3 _ hf; omega, fun hf => by have := h4 _ hf; omega⟩
  refine (JC.start a m c b k hk h1 h2 h5 hb h256 hfar hc hm).mono ?_
  rintro e w' ⟨ho, F', E', hF', hE', hd, rfl, hor⟩
  have hlets : Lets K w W w' := ⟨_, ho, fun k hk hK => hk.elim (fun h' => h6 k h' hK) fun h' => h7 k h' hK, fun k hk => hk.elim (h3 k) (h4 k)⟩
  have q : ∀ {s' r'}, D n F' d s' w' → J n E' j d r' w' → JH D J n d j s' r' K w w' := fun q1 q2 =>
    ⟨⟨F', E', q1, q2, fun k hk => (hF' k hk).elim (h3 k) fun h' => Nat.le_trans h9.size h', fun k hk => (hE' k hk).elim (h4 k) fun h' => Nat.le_trans h9.size h', hd,
      fun k hk hK => (hF' k hk).elim (fun h' => h6 k h' hK) fun h' => by have := hlt k hK; omega, fun k hk hK => (hE' k hk).elim (fun h' => h7 k h' hK) fun h' => by have := hlt k hK; omega⟩, h8, hlets.below h9⟩
  rcases hor with ⟨e0, q1, q2⟩ | ⟨e0, q1, q2⟩
  · exact ⟨_, _, rfl, q q1 q2, hlets, Or.inl ⟨e0, rfl, rfl⟩⟩
  · exact ⟨_, _, rfl, q q1 q2, hlets, Or.inr ⟨e0, rfl, rfl⟩⟩
theorem DH.open' (JC : JrnC D J) (h : DH D n d s K w W) (hlt : ∀ k, K k → k < W.heap.size) (hs : s.byt) :
    Calls Try.prog 17 #[.pointer (some d)] W fun e w' => ∃ j, e = .returned (.tuple #[.pointer (some j), .nilIface]) ∧ JH D J n d j (openS s) (openR s) K w w' ∧ Lets K w W w' := by
  obtain ⟨⟨F, h1, h2, h6⟩, h8, h9⟩ := h
  refine (JC.opens h1 hs).mono ?_
  rintro e w' ⟨ho, F', E, j, hF', hE, hd, rfl, q1, q2⟩
  have hlets : Lets K w W w' := ⟨F, ho, h6, h2⟩
  exact ⟨j, rfl, ⟨⟨F', E, q1, q2, fun k hk => (hF' k hk).elim (h2 k) fun h' => Nat.le_trans h9.size h', fun k hk => Nat.le_trans h9.size (hE k hk), hd,
    fun k hk hK => (hF' k hk).elim (fun h' => h6 k h' hK) fun h' => by have := hlt k hK; omega, fun k hk hK => by have := hE k hk; have := hlt k hK; omega⟩, h8, hlets.below h9⟩, hlets⟩
/-- opened once more: the journal that was there answers as it did -/
theorem JH.reopen (DC : DiskC D) (JC : JrnC D J) (h : JH D J n d j s r K w W) (hlt : ∀ k, K k → k < W.heap.size) (hs : s.byt) :
    Calls Try.prog 17 #[.pointer (some d)] W fun e w' => ∃ j', e = .returned (.tuple #[.pointer (some j'), .nilIface]) ∧ JH D J n d j' (openS s) (openR s) K w w' ∧ JH D J n d j (openS s) r K w w' ∧ Lets K w W w' := by
  obtain ⟨⟨F, E, h1, h2, h3, h4, h5, h6, h7⟩, h8, h9⟩ := h
  refine (JC.opens h1 hs).mono ?_
  rintro e w' ⟨ho, F', E', j', hF', hE, hd, rfl, q1, q2⟩
  have hlets : Lets K w W w' := ⟨F, ho, h6, h3⟩
  have hFK : ∀ k, F' k → ¬ K k := fun k hk hK => (hF' k hk).elim (fun h' => h6 k h' hK) fun h' => by have := hlt k hK; omega
  have hFw : ∀ k, F' k → w.heap.size ≤ k := fun k hk => (hF' k hk).elim (h3 k) fun h' => Nat.le_trans h9.size h'
  exact ⟨j', rfl, ⟨⟨F', E', q1, q2, hFw, fun k hk => Nat.le_trans h9.size (hE k hk), hd, hFK, fun k hk hK => by have := hE k hk; have := hlt k hK; omega⟩, h8, hlets.below h9⟩,
    ⟨⟨F', E, q1, JC.keep h2 ho fun k hf he => h5 k he hf, hFw, h4, fun k hk hf => (hF' k hf).elim (h5 k hk) fun h' => by have := JC.lt h2 k hk; omega, hFK, h7⟩, h8, hlets.below h9⟩, hlets⟩
theorem DH.write (DC : DiskC D) (h : DH D n d s K w W) (hlt : ∀ k, K k → k < W.heap.size) (p : Int) (a : Option Addr) (m c : Nat) (b : List Nat) (hp : i64d p) (hb : Cells W a m (b.map b8)) (hmine : Mine2 K w a m) (h256 : ∀ x ∈ b, x < 256) (hc : m ≤ c) (hm : c ≤ maxLen) (hm2 : m ≤ 2000) :
    Calls Try.prog 15 #[.pointer (some d), .int .i64 p, .slice a m c] W fun e w' => ∃ k s', e = .returned (errv k) ∧ DH D n d s' K w w' ∧ Lets K w W w' ∧ ((thereD n p m = true ∧ k = 0 ∧ s' = s.write p.toNat b) ∨ (thereD n p m = false ∧ k = 1 ∧ s' = s)) := by
  obtain ⟨⟨F, h1, h2, h6⟩, h8, h9⟩ := h
  refine (DC.write p a m c b h1 hp hb h256 (fun x hx => (hmine x hx).imp id fun h => h.elim (fun hk hf => h6 _ hf hk) fun hk hf => by have := h2 _ hf; omega) hc hm hm2).mono ?_
  rintro e w' ⟨ho, F', hF', hor⟩
  have hlets : Lets K w W w' := ⟨F, ho, h6, h2⟩
  have q : ∀ {s'}, D n F' d s' w' → DH D n d s' K w w' := fun q1 => ⟨⟨F', q1, fun k hk => (hF' k hk).elim (h2 k) fun h' => Nat.le_trans h9.size h', fun k hk hK => (hF' k hk).elim (fun h' => h6 k h' hK) fun h' => by have := hlt k hK; omega⟩, h8, hlets.below h9⟩
  rcases hor with ⟨g, rfl, hd⟩ | ⟨g, rfl, hd⟩
  · exact ⟨0, _, rfl, q hd, hlets, Or.inl ⟨g, rfl, rfl⟩⟩
  · exact ⟨1, _, rfl, q hd, hlets, Or.inr ⟨g, rfl, rfl⟩⟩
theorem DH.sync (DC : DiskC D) (h : DH D n d s K w W) (hlt : ∀ k, K k → k < W.heap.size) :
    Calls Try.prog 16 #[.pointer (some d)] W fun e w' => e = .returned (.tuple #[]) ∧ DH D n d s.sync K w w' ∧ Lets K w W w' := by
  obtain ⟨⟨F, h1, h2, h6⟩, h8, h9⟩ := h
  refine (DC.sync h1).mono ?_
  rintro e w' ⟨ho, F', hF', rfl, hd⟩
  have hlets : Lets K w W w' := ⟨F, ho, h6, h2⟩
  exact ⟨rfl, ⟨⟨F', hd, fun k hk => (hF' k hk).elim (h2 k) fun h' => Nat.le_trans h9.size h', fun k hk hK => (hF' k hk).elim (fun h' => h6 k h' hK) fun h' => by have := hlt k hK; omega⟩, h8, hlets.below h9⟩, hlets⟩
theorem JH.read (DC : DiskC D) (JC : JrnC D J) (h : JH D J n d j s r K w W) (p m : Int) (hp : i64d p) (hm : i64d m) (ht : thereD n p m = true) :
    Calls Try.prog 22 #[.pointer (some d), .int .i64 p, .int .i64 m] W fun e w' => ∃ a c, e = .returned (.tuple #[.slice a m.toNat c, .nilIface]) ∧ Cells w' a m.toNat (((s.nw.drop p.toNat).take m.toNat).map b8) ∧ JH D J n d j s r K w w' ∧ Below W.heap.size W w' := by
  obtain ⟨F, E, h1, h2, -⟩ := h.at'
  refine (DC.read p m h1 hp hm).mono ?_
  rintro e w' ⟨hb, ⟨-, v, rfl, ho⟩ | ⟨g, -⟩⟩
  · obtain ⟨pa, pc, rfl, hcl, -⟩ := own_bytes ho
    exact ⟨pa, pc, rfl, hcl, h.up DC JC hb, hb⟩
  · rw [ht] at g; cases g
theorem DH.crash (DC : DiskC D) (h : DH D n d s K w W) (hlt : ∀ k, K k → k < W.heap.size) (a : Option Addr) (m c : Nat) (picks : List Int) (hb : Elems W a m picks) (hmine : Mine2 K w a m) (hc : m ≤ c) (hm2 : m ≤ 2000) :
    Calls Try.prog 27 #[.pointer (some d), .slice a m c] W fun e w' => e = .returned (.tuple #[]) ∧ DH D n d (s.crash picks) K w w' ∧ Lets K w W w' := by
  obtain ⟨⟨F, h1, h2, h6⟩, h8, h9⟩ := h
  refine (DC.crash a m c picks h1 hb (fun x hx => (hmine x hx).imp id fun h => h.elim (fun hk hf => h6 _ hf hk) fun hk hf => by have := h2 _ hf; omega) hc hm2).mono ?_
  rintro e w' ⟨ho, F', hF', rfl, hd⟩
  have hlets : Lets K w W w' := ⟨F, ho, h6, h2⟩
  exact ⟨rfl, ⟨⟨F', hd, fun k hk => (hF' k hk).elim (h2 k) fun h' => Nat.le_trans h9.size h', fun k hk hK => (hF' k hk).elim (fun h' => h6 k h' hK) fun h' => by have := hlt k hK; omega⟩, h8, hlets.below h9⟩, hlets⟩
theorem JH.free (DC : DiskC D) (JC : JrnC D J) (h : JH D J n d j s r K w W) :
    Calls Try.prog 28 #[.pointer (some j)] W fun e w' => e = .returned (.int .i64 (freeN n r : Int)) ∧ JH D J n d j s r K w w' ∧ Below W.heap.size W w' := by
  obtain ⟨F, E, h1, h2, -⟩ := h.at'
  refine (JC.free h1 h2).mono ?_
  rintro e w' ⟨hb, rfl⟩
  exact ⟨rfl, h.up DC JC hb, hb⟩
theorem JH.records (DC : DiskC D) (JC : JrnC D J) (h : JH D J n d j s r K w W) :
    Calls Try.prog 24 #[.pointer (some j)] W fun e w' => ∃ v, e = .returned v ∧ OwnRecs W.heap.size v r.recs w' ∧ JH D J n d j s r K w w' ∧ Below W.heap.size W w' := by
  obtain ⟨F, E, h1, h2, -⟩ := h.at'
  refine (JC.records h2).mono ?_
  rintro e w' ⟨hb, v, rfl, ho⟩
  exact ⟨v, rfl, ho, h.up DC JC hb, hb⟩
end

/-- all of a row's records are another's -/
def OldIn (w : World) (vs : List Value) (rs : List (List Nat)) : Prop := vs.length = rs.length ∧ ∀ i, i < rs.length → ∀ x a c, vs.getD i undef = .slice a (rs.getD i []).length c → a = some x → (rs.getD i []).length = 0 ∨ x.block < w.heap.size
theorem OldIn.nil (w : World) : OldIn w [] [] := ⟨rfl, fun i hi => by simp at hi⟩
theorem OldIn.push {w : World} {vs : List Value} {rs : List (List Nat)} (h : OldIn w vs rs) {a : Option Addr} {m c : Nat} {b : List Nat} (hl : b.length = m) {ys : List Value} (hc : Cells w a m ys) : OldIn w (vs ++ [.slice a m c]) (rs ++ [b]) := by
  refine ⟨by rw [List.length_append, List.length_append, h.1]; rfl, fun i hi x a' c' e hx => ?_⟩
  rw [List.length_append, List.length_singleton] at hi
  by_cases hlt : i < rs.length
  · have e1 : (vs ++ [Value.slice a m c]).getD i undef = vs.getD i undef := by simp [List.getD, List.getElem?_append_left (show i < vs.length by rw [h.1]; exact hlt)]
    have e2 : (rs ++ [b]).getD i [] = rs.getD i [] := by simp [List.getD, List.getElem?_append_left hlt]
    rw [e1, e2] at e
    rw [e2]
    exact h.2 i hlt x a' c' e hx
  · obtain rfl : i = rs.length := by omega
    have e1 : (vs ++ [Value.slice a m c]).getD rs.length undef = .slice a m c := by simp [List.getD, ← h.1]
    have e2 : (rs ++ [b]).getD rs.length [] = b := by simp [List.getD]
    rw [e1] at e
    rw [e2, hl]
    injection e with ea _ _
    subst ea
    rcases hc.2 with h0 | ⟨bb, off, e3, hcc⟩
    · exact Or.inl h0
    · by_cases h0 : m = 0
      · exact Or.inl h0
      · rw [hx] at e3
        cases e3
        have := cell_lt (hcc 0 (by omega))
        exact Or.inr this
theorem OldIn.in' {w : World} {vs : List Value} {rs : List (List Nat)} (h : OldIn w vs rs) (K : Nat → Prop) : ∀ i, i < rs.length → ∀ x a c, vs.getD i undef = .slice a (rs.getD i []).length c → a = some x → (rs.getD i []).length = 0 ∨ K x.block ∨ x.block < w.heap.size :=
  fun i hi x a c e hx => (h.2 i hi x a c e hx).imp id Or.inr
/-- all of a row's records lie in blocks of K, or are another's -/
def InK (K : Nat → Prop) (w : World) (vs : List Value) (rs : List (List Nat)) : Prop := vs.length = rs.length ∧ ∀ i, i < rs.length → ∀ x a c, vs.getD i undef = .slice a (rs.getD i []).length c → a = some x → (rs.getD i []).length = 0 ∨ K x.block ∨ x.block < w.heap.size
theorem InK.mono {K K' : Nat → Prop} {w : World} {vs : List Value} {rs : List (List Nat)} (h : InK K w vs rs) (hK : ∀ k, K k → K' k) : InK K' w vs rs :=
  ⟨h.1, fun i hi x a c e hx => (h.2 i hi x a c e hx).imp id fun h' => h'.imp (hK _) id⟩
theorem OldIn.k {w : World} {vs : List Value} {rs : List (List Nat)} (h : OldIn w vs rs) (K : Nat → Prop) : InK K w vs rs := ⟨h.1, h.in' K⟩
theorem InK.push {K : Nat → Prop} {w : World} {vs : List Value} {rs : List (List Nat)} (h : InK K w vs rs) {a : Option Addr} {m c : Nat} {b : List Nat} (hl : b.length = m) {ys : List Value} (hc : Cells w a m ys) : InK K w (vs ++ [.slice a m c]) (rs ++ [b]) := by
  refine ⟨by rw [List.length_append, List.length_append, h.1]; rfl, fun i hi x a' c' e hx => ?_⟩
  rw [List.length_append, List.length_singleton] at hi
  by_cases hlt : i < rs.length
  · have e1 : (vs ++ [Value.slice a m c]).getD i undef = vs.getD i undef := by simp [List.getD, List.getElem?_append_left (show i < vs.length by rw [h.1]; exact hlt)]
    have e2 : (rs ++ [b]).getD i [] = rs.getD i [] := by simp [List.getD, List.getElem?_append_left hlt]
    rw [e1, e2] at e
    rw [e2]
    exact h.2 i hlt x a' c' e hx
  · obtain rfl : i = rs.length := by omega
    have e1 : (vs ++ [Value.slice a m c]).getD rs.length undef = .slice a m c := by simp [List.getD, ← h.1]
    have e2 : (rs ++ [b]).getD rs.length [] = b := by simp [List.getD]
    rw [e1] at e
    rw [e2, hl]
    injection e with ea _ _
    subst ea
    rcases hc.2 with h0 | ⟨bb, off, e3, hcc⟩
    · exact Or.inl h0
    · by_cases h0 : m = 0
      · exact Or.inl h0
      · rw [hx] at e3
        cases e3
        have := cell_lt (hcc 0 (by omega))
        exact Or.inr (Or.inr this)
/-- records that were told: all of them in memory of their own -/
theorem OwnRecs.mixK {B : Nat} {v : Value} {rs : List (List Nat)} {w : World} (h : OwnRecs B v rs w) (w0 : World) : ∃ vs, MixRecs B v vs rs w ∧ InK (fun k => B ≤ k ∧ k < w.heap.size) w0 vs rs ∧ ∀ k, v.ownBlock = some k → B ≤ k ∧ k < w.heap.size := by
  obtain ⟨vs, h1, h2⟩ := h
  refine ⟨vs, ⟨h1, fun j hj => ?_⟩, ⟨by have := h1.1; omega, fun i hi x a c e hx => ?_⟩, h1.lt⟩
  · obtain ⟨q1, q2⟩ := h2 j hj
    obtain ⟨a, c, e, hc, -⟩ := own_bytes q1
    refine ⟨a, c, e, hc, fun x hx => Or.inr (q2 x.block ?_)⟩
    rw [e, hx]; rfl
  · have := (h2 i hi).1.lt x.block (by rw [e, hx]; rfl)
    exact Or.inr (Or.inl this)
/-- the row's values, each a slice -/
theorem MixRecs.one {B : Nat} {v : Value} {vs : List Value} {rs : List (List Nat)} {w : World} (h : MixRecs B v vs rs w) : ∀ u ∈ vs, u.oneCell' = true := fun u hu => by
  obtain ⟨i, hi, rfl⟩ := List.mem_iff_getElem.1 hu
  have hvl : vs.length = rs.length := by have := h.1.1; omega
  obtain ⟨a, c, e, -⟩ := h.2 i (by omega)
  have e2 : vs[i] = vs.getD i undef := by simp [List.getD, hi]
  rw [e2, e]; rfl
theorem MixRecs.cells {B : Nat} {a : Option Addr} {n c : Nat} {vs : List Value} {rs : List (List Nat)} {w : World} (h : MixRecs B (.slice a n c) vs rs w) : Cells w a rs.length vs := by
  have hvl : vs.length = rs.length := by have := h.1.1; omega
  rcases h.1.2 with ⟨e, h0⟩ | ⟨g, cap, cur, e, hB, hh, hr⟩
  · exact ⟨hvl, Or.inl h0⟩
  · have h1 := h.1
    rw [e] at h1
    cases e
    exact ownsRow_cells h1
theorem MixRecs.copy {B : Nat} {v v' : Value} {vs : List Value} {rs : List (List Nat)} {w w' : World} (h : MixRecs B v vs rs w) (h' : w'.ownsRow w.heap.size 27 1 v' rs.length vs) (hb : Below w.heap.size w w') : MixRecs w.heap.size v' vs rs w' := by
  refine ⟨h', fun i hi => ?_⟩
  obtain ⟨a, c, e, hc, -⟩ := h.2 i hi
  refine ⟨a, c, e, hc.upB hb, fun x hx => ?_⟩
  rcases hc.2 with h0 | ⟨b, off, e2, hcc⟩
  · exact Or.inl h0
  · by_cases h0 : (rs.getD i []).length = 0
    · exact Or.inl h0
    · rw [hx] at e2
      cases e2
      have h1 := cell_lt (hcc 0 (by omega))
      refine Or.inr fun e3 => ?_
      have h2 := (h'.lt _ e3).1
      simp at h1 h2
      omega
/-- rows of bytes that came in -/
def RowsIn (w : World) (a : Option Addr) (n : Nat) (rs : List (List Nat)) : Prop :=
  rs.length = n ∧ Byts rs ∧ (n = 0 ∨ ∃ b off, a = some ⟨b, off, none⟩ ∧ ∀ j, j < n → ∃ aj cj, w.cell? ⟨b, off + j, none⟩ = some (.slice aj (rs.getD j []).length cj) ∧ Cells w aj (rs.getD j []).length ((rs.getD j []).map b8) ∧ (rs.getD j []).length ≤ cj ∧ cj ≤ maxLen)
theorem RowsIn.up {w W : World} {a : Option Addr} {n : Nat} {rs : List (List Nat)} (h : RowsIn w a n rs) (hb : Below w.heap.size w W) : RowsIn W a n rs := by
  refine ⟨h.1, h.2.1, h.2.2.imp id ?_⟩
  rintro ⟨b, off, rfl, hc⟩
  refine ⟨b, off, rfl, fun j hj => ?_⟩
  obtain ⟨aj, cj, h1, h2, h3⟩ := hc j hj
  exact ⟨aj, cj, by rw [hb.cell (p := ⟨b, off + j, none⟩) (cell_lt h1)]; exact h1, h2.upB hb, h3⟩
end Go.Proofs.Ytehfbafocbcfnaa
