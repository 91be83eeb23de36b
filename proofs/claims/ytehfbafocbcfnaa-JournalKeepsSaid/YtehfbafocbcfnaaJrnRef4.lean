/- The document's answer of layer 8: stages of an append. -/
import Derived.Test.YtehfbafocbcfnaaJrnRef3
import Derived.Test.YtehfbafocbcfnaaDiskRef2
import Derived.Deep.RegionLaw
namespace Go.Proofs.Ytehfbafocbcfnaa
open Go Go.RowKit
set_option linter.unusedVariables false

section
variable {G : Lies} {K : Nat} {Z : Nat → Prop} {r : Jr} {v : Value} {vs : List Value} {w w' : World} {n : Nat} {s : Dsk}

theorem may_zero {b : List Nat} (h : mayN n r b = 0) : r.bad = false ∧ 1 ≤ b.length ∧ b.length ≤ 1024 ∧ r.fin + 8 + b.length ≤ 64 * n := by
  unfold mayN at h
  cases hb : r.bad
  · rw [hb, if_neg (by simp)] at h
    by_cases h1 : b.length < 1 ∨ 1024 < b.length
    · rw [if_pos h1] at h; omega
    · rw [if_neg h1] at h
      by_cases h2 : freeN n r < b.length
      · rw [if_pos h2] at h; omega
      · unfold freeN at h2
        rw [hb, if_neg (by simp)] at h2
        exact ⟨rfl, by omega, by omega, by omega⟩
  · rw [hb, if_pos rfl] at h; omega

/-- a slice that lies in none of two sets of blocks -/
def Far2 (X Y : Nat → Prop) (a : Option Addr) (m : Nat) : Prop := ∀ x, a = some x → m = 0 ∨ (¬ X x.block ∧ ¬ Y x.block)

theorem write_s (p : Int) (P : Nat) (hP : p = (P : Int)) (a : Option Addr) (m c : Nat) (bs : List Nat) (h : MAt n G s w) (hb : Cells w a m (bs.map b8)) (hfar : ∀ x, a = some x → m = 0 ∨ ¬ G.all x.block) (hc : m ≤ c) (hp : P + m ≤ 64 * n) :
    Calls Try.prog 19 #[.pointer (some ⟨G.g0, 0, none⟩), .int .i64 p, .slice a m c] w fun e w' => e = .returned (.tuple #[]) ∧ MAt n G (s.write P bs) w' ∧ Only G.all w w' := by
  subst hP; exact refWrite7_any n G s P a m c bs w h hb hfar hc hp

theorem refHead_e (m : Nat) (hm : m ≤ 1000000) (w : World) : Calls Try.prog 50 #[.int .i64 (m : Int)] w fun e w' => ∃ pa pc, e = .returned (.slice pa 8 pc) ∧ Cells w' pa 8 ((headN m).map b8) ∧ 8 ≤ pc ∧ (∀ x, pa = some x → w.heap.size ≤ x.block) ∧ Below w.heap.size w w' := by
  refine (refHead_any m hm w).mono ?_
  rintro e w' ⟨v, rfl, ho, hb⟩
  obtain ⟨pa, pc, rfl, hc, -, hp, hB⟩ := own_bytes ho
  exact ⟨pa, pc, rfl, hc, hp, hB, hb⟩

/-- what is held between two stages -/
structure Stg (n : Nat) (G : Lies) (s : Dsk) (K : Nat) (Z : Nat → Prop) (r : Jr) (v : Value) (vs : List Value) (a : Option Addr) (m : Nat) (b : List Nat) (w W : World) : Prop where
  md : MAt n G s W
  kt : KAt G K Z r v vs W
  bs : Cells W a m (b.map b8)
  only : Only (fun i => G.all i ∨ Z i) w W
theorem Stg.turn {a : Option Addr} {m : Nat} {b : List Nat} {W W' : World} {s' : Dsk} (h : Stg n G s K Z r v vs a m b w W) (hd : ∀ k, G.all k → ¬ Z k) (hf : ∀ x, a = some x → m = 0 ∨ ¬ G.all x.block) (hm : MAt n G s' W') (ho : Only G.all W W') : Stg n G s' K Z r v vs a m b w W' := by
  refine ⟨hm, h.kt.only ho hd, ?_, h.only.trans (ho.mono fun _ _ h => Or.inl h)⟩
  obtain ⟨h1, h2⟩ := h.bs
  refine ⟨h1, ?_⟩
  rcases h2 with h0 | ⟨b', off, rfl, hcc⟩
  · exact Or.inl h0
  · by_cases h0 : m = 0
    · exact Or.inl h0
    · refine Or.inr ⟨b', off, rfl, fun j hj => ?_⟩
      rw [World.cell?_of_block (w := W) (ho.block b' (cell_lt (hcc j hj)) ((hf _ rfl).resolve_left h0))]
      exact hcc j hj
theorem Stg.up {a : Option Addr} {m : Nat} {b : List Nat} {W W' : World} (h : Stg n G s K Z r v vs a m b w W) (hb : Below W.heap.size W W') : Stg n G s K Z r v vs a m b w W' :=
  ⟨h.md.up hb, h.kt.up hb, h.bs.upB hb, h.only.trans (Only.of_below hb)⟩

theorem KAt.spoil (h : KAt G K Z r v vs w) : KAt G K Z ⟨r.recs, r.fin, true⟩ v vs (w.setCell ⟨K, 3, none⟩ (.bool true)) := by
  refine ⟨?_, ?_, fun j hj => ⟨?_, (h.each j hj).2⟩, h.zv, h.ze, h.zk, fun i hi => by have := h.zlt i hi; simpa [World.setCell] using this⟩
  · have := h.r0.set 3 (.bool true); exact this
  · exact ownsRow_only h.row ((Only.refl (fun i => i = K) w).setCell rfl _) fun g hg h' => (h.zv g hg).2 h'
  · exact ownsRow_only (h.each j hj).1 ((Only.refl (fun i => i = K) w).setCell rfl _) fun g hg h' => (h.ze j hj g hg).2 h'
theorem MAt.setOther (h : MAt n G s w) {p : Addr} (hp : ¬ G.all p.block) (u : Value) : MAt n G s (w.setCell p u) :=
  h.only (F := fun i => i = p.block) ((Only.refl (fun i => i = p.block) w).setCell rfl u) fun k hk hg => hp (hk ▸ hg)
theorem Stg.spoil {a : Option Addr} {m : Nat} {b : List Nat} {W : World} (h : Stg n G s K Z r v vs a m b w W) (hd : ∀ k, G.all k → ¬ Z k) :
    MAt n G s (W.setCell ⟨K, 3, none⟩ (.bool true)) ∧ KAt G K Z ⟨r.recs, r.fin, true⟩ v vs (W.setCell ⟨K, 3, none⟩ (.bool true)) ∧ Only (fun i => G.all i ∨ Z i) w (W.setCell ⟨K, 3, none⟩ (.bool true)) :=
  ⟨h.md.setOther (fun hg => hd _ hg h.kt.zk) _, h.kt.spoil, h.only.setCell (Or.inr h.kt.zk) _⟩

theorem only_grown8 {w w' : World} {row : Option Nat} (h : w.grownBy w' row) : Only (fun i => row = some i) w w' :=
  ⟨h.os, h.tape, h.output, h.size, fun k hk hr => h.block k hk fun e => hr e.symm⟩
theorem KAt.push {B : Nat} {x v2 : Value} {b : List Nat} {w1 w2 : World} (h : KAt G K Z r v vs w1) (hs : w1.ownsRow 0 5 1 x b.length (b.map b8)) (hsv : ∀ g, x.ownBlock = some g → v.ownBlock ≠ some g ∧ g ≠ K ∧ B ≤ g)
    (h' : w2.ownsRow 0 27 1 v2 (r.recs.length + 1) (vs ++ [x])) (hg : w1.grownBy w2 v.ownBlock) (ho : v2.ownBlock = v.ownBlock ∨ v2.ownBlock = some w1.heap.size) (hB : B ≤ w1.heap.size) (hK : K < B) (u : Value) (hu : u = .int .i64 ((r.fin + 8 + b.length : Nat) : Int)) :
    KAt G K (fun i => Z i ∨ (B ≤ i ∧ i < w2.heap.size)) ⟨r.recs ++ [b], r.fin + 8 + b.length, r.bad⟩ v2 (vs ++ [x]) ((w2.setCell ⟨K, 1, none⟩ v2).setCell ⟨K, 2, none⟩ u) := by
  subst hu
  have hvl : vs.length = r.recs.length := by have := h.row.1; omega
  have ho2 := only_grown8 hg
  have oset : Only (fun i => i = K) w2 ((w2.setCell ⟨K, 1, none⟩ v2).setCell ⟨K, 2, none⟩ (.int .i64 ((r.fin + 8 + b.length : Nat) : Int))) :=
    ((Only.refl (fun i => i = K) w2).setCell rfl v2).setCell rfl _
  have hlast : r.recs.length < w2.heap.size ∨ True := Or.inr trivial
  have hv2K : ∀ g, v2.ownBlock = some g → g ≠ K := fun g hg2 e => by
    rcases ho with ho | ho
    · exact (h.zv g (by rw [← ho]; exact hg2)).2 e
    · rw [ho] at hg2; cases hg2; omega
  have keep : ∀ (y : Value) (l : List Nat), w1.ownsRow 0 5 1 y l.length (l.map b8) → (∀ g, y.ownBlock = some g → v.ownBlock ≠ some g) → (∀ g, y.ownBlock = some g → g ≠ K) →
      ((w2.setCell ⟨K, 1, none⟩ v2).setCell ⟨K, 2, none⟩ (.int .i64 ((r.fin + 8 + b.length : Nat) : Int))).ownsRow 0 5 1 y l.length (l.map b8) ∧ ∀ g, y.ownBlock = some g → v2.ownBlock ≠ some g := fun y l hy hd hyK => by
    constructor
    · exact ownsRow_only (ownsRow_only hy ho2 fun g hg3 h3 => hd g hg3 h3) oset fun g hg3 h3 => hyK g hg3 h3
    · intro g hg2 e
      rcases ho with ho | ho
      · exact hd g hg2 (by rw [← ho]; exact e)
      · have := (hy.lt g hg2).2
        rw [ho] at e
        cases e
        omega
  refine ⟨?_, ?_, fun j hj => ?_, fun g hg2 => ⟨?_, hv2K g hg2⟩, fun j hj g hg2 => ?_, Or.inl h.zk, fun k hk => ?_⟩
  · have q1 := (h.r0.only ho2 fun e => (h.zv K e).2 rfl).set 1 v2
    have q2 := q1.set 2 (.int .i64 ((r.fin + 8 + b.length : Nat) : Int))
    exact q2
  · rw [List.length_append]
    exact ownsRow_only h' oset fun g hg2 e => hv2K g hg2 e
  · rw [List.length_append, List.length_singleton] at hj
    by_cases hlt : j < r.recs.length
    · have e1 : (vs ++ [x]).getD j undef = vs.getD j undef := by simp [List.getD, List.getElem?_append_left (show j < vs.length by omega)]
      have e2 : (r.recs ++ [b]).getD j [] = r.recs.getD j [] := by simp [List.getD, List.getElem?_append_left hlt]
      rw [e1, e2]
      exact keep _ _ (h.each j hlt).1 (h.each j hlt).2 fun g hg3 => (h.ze j hlt g hg3).2
    · obtain rfl : j = r.recs.length := by omega
      have e1 : (vs ++ [x]).getD r.recs.length undef = x := by simp [List.getD, ← hvl]
      have e2 : (r.recs ++ [b]).getD r.recs.length [] = b := by simp [List.getD]
      rw [e1, e2]
      exact keep _ _ hs (fun g hg3 => (hsv g hg3).1) fun g hg3 => (hsv g hg3).2.1
  · rcases ho with ho | ho
    · exact Or.inl (h.zv g (by rw [← ho]; exact hg2)).1
    · refine Or.inr ⟨?_, (h'.lt g hg2).2⟩
      rw [ho] at hg2
      cases hg2
      exact hB
  · rw [List.length_append, List.length_singleton] at hj
    by_cases hlt : j < r.recs.length
    · have e1 : (vs ++ [x]).getD j undef = vs.getD j undef := by simp [List.getD, List.getElem?_append_left (show j < vs.length by omega)]
      rw [e1] at hg2
      exact ⟨Or.inl (h.ze j hlt g hg2).1, (h.ze j hlt g hg2).2⟩
    · obtain rfl : j = r.recs.length := by omega
      have e1 : (vs ++ [x]).getD r.recs.length undef = x := by simp [List.getD, ← hvl]
      rw [e1] at hg2
      exact ⟨Or.inr ⟨(hsv g hg2).2.2, Nat.lt_of_lt_of_le (hs.lt g hg2).2 ho2.size⟩, (hsv g hg2).2.1⟩
  · rcases hk with hk | hk
    · have := Nat.lt_of_lt_of_le (h.zlt k hk) ho2.size; simpa [World.setCell] using this
    · simpa [World.setCell] using hk.2

set_option maxRecDepth 100000 in
set_option maxHeartbeats 16000000 in
theorem refStages_any (hM : MAt n G s w) (hK : KAt G K Z r v vs w) (hd : ∀ k, G.all k → ¬ Z k) (a : Option Addr) (m c : Nat) (b : List Nat) (hb : Cells w a m (b.map b8)) (hfar : Far2 G.all Z a m) (hc : m ≤ c) (hmc : c ≤ maxLen)
    (hmay : mayN n r b = 0) (hrl : r.recs.length ≤ 1000000) (k : Int) (hk : k = 1 ∨ k = 2 ∨ k = 3 ∨ k = 4) :
    Calls Try.prog 31 #[.pointer (some ⟨K, 0, none⟩), .slice a m c, .int .i64 k] w fun e w' => e = .returned (.tuple #[]) ∧ ∃ Z' v' vs', MAt n G (stgS s r b k) w' ∧ KAt G K Z' (stgR r b k) v' vs' w' ∧
      Only (fun i => G.all i ∨ Z i) w w' ∧ (∀ i, Z' i → Z i ∨ w.heap.size ≤ i) := by
  obtain ⟨va, vc, hv, -⟩ := hK.owns.rows
  subst hv
  have hbl : b.length = m := by have := hb.1; rwa [List.length_map] at this
  obtain ⟨hbad, hm1, hm2, hfin⟩ := may_zero hmay
  rw [hbl] at hm1 hm2 hfin
  have hn := hM.ok.2.2.2
  have H0 : Hid (Stg n G s K Z r (.slice va r.recs.length vc) vs a m b w w) := ⟨hM, hK, hb, Only.refl _ _⟩
  have H0d : Hid (Stg n G s K Z r (.slice va r.recs.length vc) vs a m b w w.drew) := H0.out.up (Below.drew (Below.refl _ _))
  have HK0 : Hid (K < w.heap.size) := hK.r0.lt
  have HD := Lib.hid hd
  have HF1 : Hid (∀ x, a = some x → m = 0 ∨ ¬ G.all x.block) := fun x hx => (hfar x hx).imp id (·.1)
  have HF2 : Hid (∀ x, a = some x → m = 0 ∨ ¬ Z x.block) := fun x hx => (hfar x hx).imp id (·.2)
  obtain ⟨e, he⟩ : ∃ e, r.fin = e := ⟨_, rfl⟩
  have HE := Lib.hid he
  have HBL := Lib.hid hbl
  have HBAD := Lib.hid hbad
  rw [he] at hfin
  obtain ⟨k0, k1, k2, k3⟩ := hK.cells
  rw [he] at k2
  have s1 : IntKind.i64.wrap ((e : Int) + 8) = (e : Int) + 8 := IntWalk.i64_in _ (by omega)
  clear hM hK hb hd hfar he hbl hbad hmay k1 k3
  go_enter Try.func31, Try.ntmps31
  go_wp2_with fail
  go_region_held3 (fun w' => w'.cell? ⟨K, 0, none⟩ = some (.pointer (some ⟨G.g0, 0, none⟩)) ∧ w'.cell? ⟨K, 2, none⟩ = some (.int .i64 (e : Int)))
    (first | exact ⟨k0, k2⟩ | (obtain ⟨c0, c1, c2, c3⟩ := H1.out.kt.cells; rw [HE.out] at c2; exact ⟨c0, c2⟩))
    ((go_at_call 19; with_reducible refine (write_s ((e : Int) + 8) (e + 8) (by omega) a m c b H0d.out.md H0d.out.bs HF1.out hc (by omega)).mono ?_; rintro e' w1 ⟨rfl, hm1, ho1⟩; have H1 := Lib.hid (H0d.out.turn HD.out HF1.out hm1 ho1); clear hm1 ho1))
  obtain ⟨k0, -, k2, k3⟩ := H1.out.kt.cells
  rw [HE.out] at k2
  rcases hk with rfl | hk
  · have hf3 := H1.out.kt.r0.frozen 3
    go_wp2_with fail
    go_end0
    obtain ⟨q1, q2, q3⟩ := H1.out.spoil HD.out
    exact ⟨rfl, Z, _, vs, by rw [show stgS s r b 1 = s.write (r.fin + 8) b from rfl, HE.out]; exact q1, q2, q3, fun i hi => Or.inl hi⟩
  have t2 : (2 : Int) ≤ k := by omega
  go_wp2_with fail
  refine (refSync_any n G _ _ H1.out.md).mono ?_
  rintro e' w2 ⟨rfl, hm2', ho2⟩
  have H2 := Lib.hid (H1.out.turn HD.out HF1.out hm2' ho2)
  clear hm2' ho2
  obtain ⟨k0, -, k2, k3⟩ := H2.out.kt.cells
  rw [HE.out] at k2
  rcases hk with rfl | hk
  · have hf3 := H2.out.kt.r0.frozen 3
    go_wp2_with fail
    go_end0
    obtain ⟨q1, q2, q3⟩ := H2.out.spoil HD.out
    exact ⟨rfl, Z, _, vs, by rw [show stgS s r b 2 = (s.write (r.fin + 8) b).sync from rfl, HE.out]; exact q1, q2, q3, fun i hi => Or.inl hi⟩
  have t3 : (3 : Int) ≤ k := by omega
  have HW2 : Hid (Below w2.heap.size w2 w2.drew) := Below.drew (Below.refl _ _)
  go_wp2_with fail
  go_region_held3 (fun w' => w'.cell? ⟨K, 0, none⟩ = some (.pointer (some ⟨G.g0, 0, none⟩)) ∧ w'.cell? ⟨K, 2, none⟩ = some (.int .i64 (e : Int)))
    (first | exact ⟨k0, k2⟩ | (obtain ⟨c0, c1, c2, c3⟩ := H4.out.kt.cells; rw [HE.out] at c2; exact ⟨c0, c2⟩) | (obtain ⟨c0, c1, c2, c3⟩ := H3.out.kt.cells; rw [HE.out] at c2; exact ⟨c0, c2⟩))
    (first
      | (go_at_call 50; with_reducible refine (refHead_e m (by omega) _).mono ?_; rintro e' w3 ⟨pa, pc, rfl, hcl3, hpc, hpB, hb3⟩; have H3 := Lib.hid ((H2.out.up HW2.out).up hb3); have HC3 := Lib.hid hcl3; have HP3 := Lib.hid hpB; clear hb3 hcl3 hpB)
      | (go_at_call 19; with_reducible refine (write_s (e : Int) e rfl pa 8 pc (headN m) H3.out.md HC3.out (fun x hx => Or.inr fun hg => by have h1 := HP3.out x hx; have h2 := H2.out.md.lt _ hg; simp at h1; omega) hpc (by omega)).mono ?_; rintro e' w4 ⟨rfl, hm4, ho4⟩; have H4 := Lib.hid (H3.out.turn HD.out HF1.out hm4 ho4); clear hm4 ho4))
  obtain ⟨k0, k1, k2, k3⟩ := H4.out.kt.cells
  rw [HE.out] at k2
  rcases hk with rfl | rfl
  · have hf3 := H4.out.kt.r0.frozen 3
    go_wp2_with fail
    go_end0
    obtain ⟨q1, q2, q3⟩ := H4.out.spoil HD.out
    exact ⟨rfl, Z, _, vs, by rw [show stgS s r b 3 = ((s.write (r.fin + 8) b).sync).write r.fin (headN b.length) from rfl, HE.out, HBL.out]; exact q1, q2, q3, fun i hi => Or.inl hi⟩
  go_wp2_with fail
  refine (refSync_any n G _ _ H4.out.md).mono ?_
  rintro e' w5 ⟨rfl, hm5, ho5⟩
  have H5 := Lib.hid (H4.out.turn HD.out HF1.out hm5 ho5)
  clear hm5 ho5
  obtain ⟨k0, k1, k2, k3⟩ := H5.out.kt.cells
  rw [HE.out] at k2
  have hKw : K < w.heap.size := by have := HK0.out; exact this
  have H6 : Hid (Stg n G _ K Z r (.slice va r.recs.length vc) vs a m b w w5.drew) := H5.out.up (Below.drew (Below.refl _ _))
  have HO0 : Hid ((w5.drew.alloc (Obj.cells #[] 5)).ownsRow 0 5 1 (.slice (some ⟨w5.heap.size, 0, none⟩) 0 0) 0 (([] : List Nat).map b8)) := World.ownsRow_lit (base := 0) (e := 5) (size := 1) w5.drew #[] 0 (Nat.zero_le _) (by decide) rfl
  have H6a : Hid (Stg n G _ K Z r (.slice va r.recs.length vc) vs a m b w (w5.drew.alloc (Obj.cells #[] 5))) := H6.out.up ((Below.refl _ _).alloc (Nat.le_refl _) _)
  have k1a : (w5.alloc (Obj.cells #[] 5)).cell? ⟨K, 1, none⟩ = some (.slice va r.recs.length vc) := (H5.out.kt.up ((Below.refl _ _).alloc (Nat.le_refl _) _)).cells.2.1
  have k1a2 : (w5.alloc (Obj.cells #[] 5)).drew.cell? ⟨K, 1, none⟩ = some (.slice va r.recs.length vc) := H6a.out.kt.cells.2.1
  have HAN : Hid (a = none → c = 0) := fun h => by
    rcases H0.out.bs.2 with h0 | ⟨_, _, h1, _⟩
    · omega
    · rw [h] at h1; cases h1
  have M1 : Hid (0 + m ≤ maxLen) := by show 0 + m ≤ maxLen; simp only [maxLen]; omega
  have M2 : Hid ((0 + m) * 1 ≤ 140737488355328) := by show (0 + m) * 1 ≤ 140737488355328; omega
  have M3 : Hid (r.recs.length + 1 ≤ maxLen) := by show r.recs.length + 1 ≤ maxLen; simp only [maxLen]; omega
  have M4 : Hid ((r.recs.length + 1) * 24 ≤ 140737488355328) := by show (r.recs.length + 1) * 24 ≤ 140737488355328; omega
  have M6 : Hid (0 < m) := by show 0 < m; omega
  go_wp2_with fail
  go_region_law (first
    | (refine step_append_cells rfl (.tmp 50) (.tmp 51) 27 rfl 0 Tu8 (.slice (some ⟨w5.heap.size, 0, none⟩) 0 0) 0 (([] : List Nat).map b8) (by simp [Act.eval]) HO0.out a m c (b.map b8) (by simp [Act.eval]) HAN.out H6a.out.bs (b8_one b) M1.out M2.out (Nat.zero_le _) ?_
       intro v1 w6 o1 q1 r1 l1
       rw [Nat.zero_add] at o1
       obtain ⟨g1, cp1, rfl, hg1, hg2⟩ := o1.form M6.out
       have hB6 : Below w5.drew.heap.size w5.drew w6 := ((Below.refl w5.drew.heap.size w5.drew).alloc (Nat.le_refl _) (Obj.cells #[] 5)).grown q1 (by simp) (fun z hz => by cases hz; exact Nat.le_refl _)
       have H7 := Lib.hid (H6.out.up hB6)
       have H7a := Lib.hid (H7.out.up ((Below.refl w6.heap.size w6).alloc (Nat.le_refl _) (Obj.cells #[.slice (some ⟨g1, 0, none⟩) m cp1] 27)))
       have hO7 := Lib.hid (o1.alloc (Obj.cells #[.slice (some ⟨g1, 0, none⟩) m cp1] 27))
       have k1b := H7.out.kt.cells.2.1
       have k1c := H7a.out.kt.cells.2.1
       have hG1 : Hid (w5.heap.size ≤ g1) := by
         rcases l1 with l1 | l1
         · have h3 : some g1 = some w5.heap.size := l1
           cases h3; exact Nat.le_refl _
         · have h3 : some g1 = some ((w5.drew.alloc (Obj.cells #[] 5)).heap.size) := l1
           rw [World.size_alloc] at h3
           cases h3; exact Nat.le_succ _)
    | (refine step_append_cells rfl (.tmp 49) (.tmp 53) 53 rfl 0 Tsb (.slice va r.recs.length vc) r.recs.length vs (by simp [Act.eval]) H7a.out.kt.row (some ⟨_, 0, none⟩) 1 1 [.slice (some ⟨g1, 0, none⟩) m cp1] (by simp [Act.eval]) (fun h => by cases h) (one_new _ _ _) (one_sl _ _ _) M3.out M4.out (Nat.zero_le _) ?_
       intro v2 w7 o2 q2 r2 l2
       obtain ⟨g2, cp2, rfl, hg3, hg4⟩ := o2.form (Nat.succ_pos _)
       have hO := only_grown8 q2
       have k1d : w7.cell? ⟨K, 1, none⟩ = some (.slice va r.recs.length vc) := ((H7a.out.kt.r0.only hO fun e => (H7a.out.kt.zv K e).2 rfl).cell (j := 1) (by simp))
       have f1d : w7.frozen? ⟨K, 1, none⟩ = false := (H7a.out.kt.r0.only hO fun e => (H7a.out.kt.zv K e).2 rfl).frozen 1))
  all_goals
    have hrow := H7a.out.kt.r0.only hO fun e' => (H7a.out.kt.zv K e').2 rfl
    rw [HE.out] at hrow
    have k2e := (hrow.set 1 (.slice (some ⟨g2, 0, none⟩) (r.recs.length + 1) cp2)).cell (j := 2) (by simp)
    have f2e := (hrow.set 1 (.slice (some ⟨g2, 0, none⟩) (r.recs.length + 1) cp2)).frozen 2
    have s8 : IntKind.i64.wrap ((e : Int) + 8 + (m : Int)) = (e : Int) + 8 + (m : Int) := IntWalk.i64_in _ (by omega)
    have HROW := Lib.hid hrow
    have hK5 : w.heap.size ≤ w5.heap.size := H5.out.only.size
    have hdis : ∀ i, (Value.slice va r.recs.length vc).ownBlock = some i → ¬ G.all i := fun i hi hg => HD.out i hg (H7a.out.kt.zv i hi).1
    have hm7 : MAt n G ((((s.write (e + 8) b).sync).write e (headN m)).sync) w7 := H7a.out.md.only hO hdis
    have hkt := H7a.out.kt.push (B := w.heap.size) (b := b) (by rw [HBL.out]; exact hO7.out) (fun g hg => by
      obtain rfl : g1 = g := Option.some.inj hg
      refine ⟨fun e' => ?_, fun e' => ?_, Nat.le_trans hK5 hG1.out⟩
      · have h1 := H5.out.kt.zlt _ (H5.out.kt.zv _ e').1
        have h2 := hG1.out
        omega
      · have h2 := hG1.out
        omega) o2 q2 l2 (by have := H7a.out.only.size; exact this) hKw (.int .i64 ((e : Int) + 8 + (m : Int))) (by rw [HE.out, HBL.out]; go_num)
    have hon : Only (fun i => G.all i ∨ Z i) w w7 := H7a.out.only.trans (hO.mono fun i _ hi => Or.inr (H7a.out.kt.zv i hi).1)
    have HKT := Lib.hid hkt
    have HM7 := Lib.hid hm7
    have HON := Lib.hid hon
    have HDK : Hid (¬ G.all K) := fun hg => HD.out K hg H7a.out.kt.zk
    clear hrow hkt hm7 hon hdis
    go_wp2_with fail
    go_end0
    refine ⟨rfl, _, _, _, ?_, HKT.out, (HON.out.setCell (Or.inr H7a.out.kt.zk) _).setCell (Or.inr H7a.out.kt.zk) _, fun i hi => hi.imp id (·.1)⟩
    rw [show stgS s r b 4 = (((s.write (r.fin + 8) b).sync).write r.fin (headN b.length)).sync from rfl, HE.out, HBL.out]
    exact (HM7.out.setOther HDK.out _).setOther HDK.out _
end
end Go.Proofs.Ytehfbafocbcfnaa
