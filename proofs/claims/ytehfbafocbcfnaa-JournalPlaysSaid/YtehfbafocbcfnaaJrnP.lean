/- A disk and its journal beside their models: as JournalPlays holds them. -/
import Derived.Test.YtehfbafocbcfnaaJrnL3
import Derived.Test.YtehfbafocbcfnaaCode
import Derived.Test.YtehfbafocbcfnaaDiskRef3
namespace Go.Proofs.Ytehfbafocbcfnaa
open Go Go.RowKit
set_option linter.unusedVariables false

section
variable {D : Nat → (Nat → Prop) → Addr → Dsk → World → Prop} {J : Nat → (Nat → Prop) → Addr → Addr → Jr → World → Prop} {n : Nat} {d j : Addr} {s t : Dsk} {r q : Jr} {G : Lies} {Kb : Nat} {Z : Nat → Prop} {v : Value} {vs : List Value} {g : Nat} {K : Nat → Prop} {w W W' : World}

/-- the pair's cells -/
abbrev pairL (d : Addr) (x : Option Addr) (G : Lies) (y : Option Addr) : List Value := [.pointer (some d), .pointer x, .pointer (some ⟨G.g0, 0, none⟩), .pointer y]
theorem pair_cells {x y : Option Addr} (h : Row g 67 (pairL d x G y) W) : W.cell? ⟨g, 0, none⟩ = some (.pointer (some d)) ∧ W.cell? ⟨g, 1, none⟩ = some (.pointer x) ∧ W.cell? ⟨g, 2, none⟩ = some (.pointer (some ⟨G.g0, 0, none⟩)) ∧ W.cell? ⟨g, 3, none⟩ = some (.pointer y) :=
  ⟨h.cell (j := 0) (by simp), h.cell (j := 1) (by simp), h.cell (j := 2) (by simp), h.cell (j := 3) (by simp)⟩

/-- a disk and its model, in a pair whose journals don't matter -/
structure PD (D : Nat → (Nat → Prop) → Addr → Dsk → World → Prop) (n : Nat) (d : Addr) (s t : Dsk) (G : Lies) (g : Nat) (x y : Option Addr) (K : Nat → Prop) (w W : World) : Prop where
  dh : DH D n d s K w W
  md : MAt n G t W
  row : Row g 67 (pairL d x G y) W
  kg : ∀ k, G.all k → K k
  kp : K g
  gg : ¬ G.all g
  lt : ∀ k, K k → k < W.heap.size
/-- a disk, its journal, and both models -/
structure PJ (D : Nat → (Nat → Prop) → Addr → Dsk → World → Prop) (J : Nat → (Nat → Prop) → Addr → Addr → Jr → World → Prop) (n : Nat) (d j : Addr) (s : Dsk) (r : Jr) (t : Dsk) (q : Jr) (G : Lies) (Kb : Nat) (Z : Nat → Prop) (v : Value) (vs : List Value) (g : Nat) (K : Nat → Prop) (w W : World) : Prop where
  jh : JH D J n d j s r K w W
  md : MAt n G t W
  kt : KAt G Kb Z q v vs W
  row : Row g 67 (pairL d (some j) G (some ⟨Kb, 0, none⟩)) W
  kg : ∀ k, G.all k → K k
  kz : ∀ k, Z k → K k
  kp : K g
  gz : ∀ k, G.all k → ¬ Z k
  gg : ¬ G.all g
  zg : ¬ Z g
  lt : ∀ k, K k → k < W.heap.size

theorem PJ.pd (h : PJ D J n d j s r t q G Kb Z v vs g K w W) : PD D n d s t G g (some j) (some ⟨Kb, 0, none⟩) K w W := ⟨h.jh.disk, h.md, h.row, h.kg, h.kp, h.gg, h.lt⟩
theorem PJ.up (DC : DiskC D) (JC : JrnC D J) (h : PJ D J n d j s r t q G Kb Z v vs g K w W) (hb : Below W.heap.size W W') : PJ D J n d j s r t q G Kb Z v vs g K w W' :=
  ⟨h.jh.up DC JC hb, h.md.up hb, h.kt.up hb, h.row.up hb, h.kg, h.kz, h.kp, h.gz, h.gg, h.zg, fun k hk => Nat.lt_of_lt_of_le (h.lt k hk) hb.size⟩
/-- the disk, or its journal, has turned -/
theorem PJ.left {s' : Dsk} {r' : Jr} (h : PJ D J n d j s r t q G Kb Z v vs g K w W) (hj : JH D J n d j s' r' K w W') (hl : Lets K w W W') : PJ D J n d j s' r' t q G Kb Z v vs g K w W' := by
  obtain ⟨X, h1, h2, -⟩ := hl
  exact ⟨hj, h.md.only h1 fun k hk hg => h2 k hk (h.kg k hg), h.kt.only h1 fun k hk hz => h2 k hk (h.kz k hz), h.row.only h1 fun hx => h2 _ hx h.kp, h.kg, h.kz, h.kp, h.gz, h.gg, h.zg, fun k hk => Nat.lt_of_lt_of_le (h.lt k hk) h1.size⟩
theorem PD.left {s' : Dsk} {x y : Option Addr} (h : PD D n d s t G g x y K w W) (hj : DH D n d s' K w W') (hl : Lets K w W W') : PD D n d s' t G g x y K w W' := by
  obtain ⟨X, h1, h2, -⟩ := hl
  exact ⟨hj, h.md.only h1 fun k hk hg => h2 k hk (h.kg k hg), h.row.only h1 fun hx => h2 _ hx h.kp, h.kg, h.kp, h.gg, fun k hk => Nat.lt_of_lt_of_le (h.lt k hk) h1.size⟩
/-- the models have turned -/
theorem PJ.right (DC : DiskC D) (JC : JrnC D J) {t' : Dsk} {q' : Jr} {Z' : Nat → Prop} {v' : Value} {vs' : List Value} (h : PJ D J n d j s r t q G Kb Z v vs g K w W) (ho : Only (fun i => G.all i ∨ Z i) W W') (hm : MAt n G t' W') (hk : KAt G Kb Z' q' v' vs' W') (hZ : ∀ i, Z' i → Z i ∨ W.heap.size ≤ i) :
    PJ D J n d j s r t' q' G Kb Z' v' vs' g (fun k => K k ∨ (W.heap.size ≤ k ∧ k < W'.heap.size)) w W' :=
  ⟨h.jh.own DC JC (ho.mono fun k _ hk => hk.elim (h.kg k) (h.kz k)) fun k hk => hk.imp id (·.1), hm, hk, h.row.only ho fun hx => hx.elim h.gg h.zg, fun k hk => Or.inl (h.kg k hk),
    fun k hz => (hZ k hz).elim (fun h' => Or.inl (h.kz k h')) fun h' => Or.inr ⟨h', hk.zlt k hz⟩, Or.inl h.kp, fun k hk hz => (hZ k hz).elim (h.gz k hk) fun h' => by have := h.lt k (h.kg k hk); omega, h.gg,
    fun hz => (hZ g hz).elim h.zg fun h' => by have := h.lt g h.kp; omega, fun k hk => hk.elim (fun h' => Nat.lt_of_lt_of_le (h.lt k h') ho.size) (·.2)⟩
theorem PD.right (DC : DiskC D) {t' : Dsk} {x y : Option Addr} (h : PD D n d s t G g x y K w W) (ho : Only G.all W W') (hm : MAt n G t' W') : PD D n d s t' G g x y K w W' :=
  ⟨h.dh.own DC (ho.mono fun k _ hk => h.kg k hk) fun k hk => Or.inl hk, hm, h.row.only ho h.gg, h.kg, h.kp, h.gg, fun k hk => Nat.lt_of_lt_of_le (h.lt k hk) ho.size⟩

def Opened (D : Nat → (Nat → Prop) → Addr → Dsk → World → Prop) (J : Nat → (Nat → Prop) → Addr → Addr → Jr → World → Prop) (n : Nat) (d : Addr) (s : Dsk) (r : Jr) (G : Lies) (g : Nat) (w : World) (e : Ending) (w' : World) : Prop :=
  e = .returned (.bool true) ∧ ∃ j Kb Z v vs K, PJ D J n d j s r s r G Kb Z v vs g K w w'

set_option maxRecDepth 100000 in
set_option maxHeartbeats 8000000 in
theorem opened8_any (DC : Hid (DiskC D)) (JC : Hid (JrnC D J)) (x y : Option Addr) (h : PD D n d s s G g x y K w W) (hs : s.byt) :
    Calls Try.prog 29 #[.pointer (some ⟨g, 0, none⟩)] W (Opened D J n d (openS s) (openR s) G g w) := by
  obtain ⟨c0, c1, c2, c3⟩ := pair_cells h.row
  have H := Lib.hid h
  have HS := Lib.hid hs
  clear h hs
  go_enter Try.func29, Try.ntmps29
  go_wp2_with fail
  refine (H.out.dh.open' JC.out H.out.lt HS.out).mono ?_
  rintro e w1 ⟨j, rfl, hj1, hl1⟩
  obtain ⟨X, h1, h2, -⟩ := hl1
  have hm1 := H.out.md.only h1 fun k hk hg => h2 k hk (H.out.kg k hg)
  have hr1 := H.out.row.only h1 fun hx => h2 _ hx H.out.kp
  obtain ⟨c0, c1, c2, c3⟩ := pair_cells hr1
  have f1 := hr1.frozen 1
  have hr2 : Row g 67 (pairL d (some j) G y) (w1.setCell ⟨g, 1, none⟩ (.pointer (some j))) := hr1.set 1 (.pointer (some j))
  have ho2 : Only (fun k => k = g) w1 (w1.setCell ⟨g, 1, none⟩ (.pointer (some j))) := (Only.refl (fun k => k = g) w1).setCell rfl _
  have hm2 := hm1.only ho2 fun k hk hg => H.out.gg (hk ▸ hg)
  have hj2 := hj1.own DC.out JC.out (ho2.mono fun k _ hk => hk ▸ H.out.kp) (K' := K) fun k hk => Or.inl hk
  have hlt2 : ∀ k, K k → k < (w1.setCell ⟨g, 1, none⟩ (.pointer (some j))).heap.size := fun k hk => Nat.lt_of_lt_of_le (H.out.lt k hk) (Nat.le_trans h1.size ho2.size)
  obtain ⟨d0, d1, d2, d3⟩ := pair_cells hr2
  obtain ⟨W2, hW2⟩ : ∃ W2, W2 = w1.setCell ⟨g, 1, none⟩ (.pointer (some j)) := ⟨_, rfl⟩
  rw [← hW2] at hr2 hm2 hj2 hlt2 d0 d1 d2 d3
  have HR2 := Lib.hid hr2
  have HM2 := Lib.hid hm2
  have HJ2 := Lib.hid hj2
  have HLT2 := Lib.hid hlt2
  have HW2 := Lib.hid hW2
  clear hj1 h1 h2 hm1 hr1 hr2 ho2 hm2 hj2 hlt2 d0 d1 d3
  rw [hW2] at d2
  clear hW2
  go_wp2_with fail
  rw [← HW2.out]
  refine (refOpen8_any HM2.out HS.out.2).mono ?_
  rintro e w3 ⟨Kb, Z, v, vs, rfl, hm3, hk3, ho3, hz3⟩
  have hr3 := HR2.out.only ho3 H.out.gg
  obtain ⟨c0, c1, c2, c3⟩ := pair_cells hr3
  have f3 := hr3.frozen 3
  have hr4 : Row g 67 (pairL d (some j) G (some ⟨Kb, 0, none⟩)) (w3.setCell ⟨g, 3, none⟩ (.pointer (some ⟨Kb, 0, none⟩))) := hr3.set 3 (.pointer (some ⟨Kb, 0, none⟩))
  have ho4 : Only (fun k => k = g) w3 (w3.setCell ⟨g, 3, none⟩ (.pointer (some ⟨Kb, 0, none⟩))) := (Only.refl (fun k => k = g) w3).setCell rfl _
  have hg2 : g < W2.heap.size := HLT2.out g H.out.kp
  have hzg : ¬ Z g := fun hz => by have := hz3 g hz; omega
  have hm4 := hm3.only ho4 fun k hk hg => H.out.gg (hk ▸ hg)
  have hk4 := hk3.only ho4 fun k hk hz => hzg (hk ▸ hz)
  have ho24 : Only K W2 (w3.setCell ⟨g, 3, none⟩ (.pointer (some ⟨Kb, 0, none⟩))) := (ho3.mono fun k _ hk => H.out.kg k hk).trans (ho4.mono fun k _ hk => hk ▸ H.out.kp)
  have HPJ : Hid (PJ D J n d j (openS s) (openR s) (openS s) (openR s) G Kb Z v vs g (fun k => K k ∨ (W2.heap.size ≤ k ∧ k < w3.heap.size)) w (w3.setCell ⟨g, 3, none⟩ (.pointer (some ⟨Kb, 0, none⟩)))) :=
    ⟨HJ2.out.own DC.out JC.out ho24 fun k hk => hk.imp id (·.1), hm4, hk4, hr4, fun k hk => Or.inl (H.out.kg k hk), fun k hz => Or.inr ⟨hz3 k hz, hk3.zlt k hz⟩, Or.inl H.out.kp,
      fun k hk hz => by have := hz3 k hz; have := HLT2.out k (H.out.kg k hk); omega, H.out.gg, hzg, fun k hk => by
        have h5 := ho4.size; have h6 := ho3.size
        rcases hk with hk | hk
        · have := HLT2.out k hk; omega
        · omega⟩
  clear hm3 hk3 ho3 hz3 hr3 hr4 ho4 hg2 hzg hm4 hk4 ho24
  go_wp2_with fail
  go_ret
  exact ⟨by first | rfl | simp, _, _, _, _, _, _, HPJ.out⟩
end
end Go.Proofs.Ytehfbafocbcfnaa
