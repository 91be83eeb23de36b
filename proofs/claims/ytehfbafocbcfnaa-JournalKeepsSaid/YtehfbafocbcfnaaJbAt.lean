/- The landed journal: where it lies in memory; its shorter calls; stages of an append on the disk; what stands behind is cleared. -/
import Derived.Test.YtehfbafocbcfnaaJrnC
import Derived.Test.YtehfbafocbcfnaaDisk
import Derived.Test.YtehfbafocbcfnaaJbHead
namespace Go.Proofs.Ytehfbafocbcfnaa
open Go Go.RowKit
set_option linter.unusedVariables false

/-- a journal over the disk at d: its struct in block K, its memory in the blocks of E -/
structure LAt (K : Nat) (E : Nat → Prop) (d : Addr) (r : Jr) (v : Value) (vs : List Value) (w : World) : Prop where
  r0 : Row K 77 [.pointer (some d), v, .int .i64 (r.fin : Int), .bool r.bad] w
  row : w.ownsRow 0 27 1 v r.recs.length vs
  each : ∀ j, j < r.recs.length → w.ownsRow 0 5 1 (vs.getD j undef) (r.recs.getD j []).length ((r.recs.getD j []).map b8) ∧ ∀ g, (vs.getD j undef).ownBlock = some g → v.ownBlock ≠ some g
  ev : ∀ g, v.ownBlock = some g → E g ∧ g ≠ K
  ee : ∀ j, j < r.recs.length → ∀ g, (vs.getD j undef).ownBlock = some g → E g ∧ g ≠ K
  ek : E K
  elt : ∀ k, E k → k < w.heap.size

/-- what holds of a journal's numbers -/
structure LOk (n : Nat) (r : Jr) : Prop where
  fin : r.fin ≤ 64 * n
  n : n ≤ 1024
  many : r.recs.length ≤ r.fin
  each : ∀ x ∈ r.recs, 1 ≤ x.length ∧ x.length ≤ 65536

def LJ (n : Nat) (E : Nat → Prop) (j d : Addr) (r : Jr) (w : World) : Prop := ∃ K v vs, j = ⟨K, 0, none⟩ ∧ LAt K E d r v vs w ∧ LOk n r

section
variable {K : Nat} {E : Nat → Prop} {d : Addr} {r : Jr} {v : Value} {vs : List Value} {w w' : World}

theorem LAt.only {X : Nat → Prop} (h : LAt K E d r v vs w) (ho : Only X w w') (hX : ∀ k, X k → ¬ E k) : LAt K E d r v vs w' :=
  ⟨h.r0.only ho fun hx => hX _ hx h.ek, ownsRow_only h.row ho fun g hg hx => hX g hx (h.ev g hg).1, fun j hj => ⟨ownsRow_only (h.each j hj).1 ho fun g hg hx => hX g hx (h.ee j hj g hg).1, (h.each j hj).2⟩, h.ev, h.ee, h.ek, fun k hk => Nat.lt_of_lt_of_le (h.elt k hk) ho.size⟩
theorem LAt.up (h : LAt K E d r v vs w) (hb : Below w.heap.size w w') : LAt K E d r v vs w' := h.only (X := fun _ => False) (Only.of_below hb) fun _ hf => hf.elim
theorem LAt.drewN (h : LAt K E d r v vs w) (q : Nat) : LAt K E d r v vs (w.drewN q) := h.up (below_drewN (Below.refl _ _) q)
theorem LAt.cells (h : LAt K E d r v vs w) : w.cell? ⟨K, 0, none⟩ = some (.pointer (some d)) ∧ w.cell? ⟨K, 1, none⟩ = some v ∧ w.cell? ⟨K, 2, none⟩ = some (.int .i64 (r.fin : Int)) ∧ w.cell? ⟨K, 3, none⟩ = some (.bool r.bad) :=
  ⟨h.r0.cell (j := 0) (by simp), h.r0.cell (j := 1) (by simp), h.r0.cell (j := 2) (by simp), h.r0.cell (j := 3) (by simp)⟩
theorem LAt.owns (h : LAt K E d r v vs w) : OwnRecs 0 v r.recs w := ⟨vs, h.row, h.each⟩

theorem LAt.spoil (h : LAt K E d r v vs w) : LAt K E d ⟨r.recs, r.fin, true⟩ v vs (w.setCell ⟨K, 3, none⟩ (.bool true)) := by
  refine ⟨?_, ?_, fun j hj => ⟨?_, (h.each j hj).2⟩, h.ev, h.ee, h.ek, fun i hi => by have := h.elt i hi; simpa [World.setCell] using this⟩
  · have := h.r0.set 3 (.bool true); exact this
  · exact ownsRow_only h.row ((Only.refl (fun i => i = K) w).setCell rfl _) fun g hg h' => (h.ev g hg).2 h'
  · exact ownsRow_only (h.each j hj).1 ((Only.refl (fun i => i = K) w).setCell rfl _) fun g hg h' => (h.ee j hj g hg).2 h'

theorem LAt.push {B : Nat} {x v2 : Value} {b : List Nat} {w1 w2 : World} (h : LAt K E d r v vs w1) (hs : w1.ownsRow 0 5 1 x b.length (b.map b8)) (hsv : ∀ g, x.ownBlock = some g → v.ownBlock ≠ some g ∧ g ≠ K ∧ B ≤ g)
    (h' : w2.ownsRow 0 27 1 v2 (r.recs.length + 1) (vs ++ [x])) (hg : w1.grownBy w2 v.ownBlock) (ho : v2.ownBlock = v.ownBlock ∨ v2.ownBlock = some w1.heap.size) (hB : B ≤ w1.heap.size) (hK : K < B) (u : Value) (hu : u = .int .i64 ((r.fin + 8 + b.length : Nat) : Int)) :
    LAt K (fun i => E i ∨ (B ≤ i ∧ i < w2.heap.size)) d ⟨r.recs ++ [b], r.fin + 8 + b.length, r.bad⟩ v2 (vs ++ [x]) ((w2.setCell ⟨K, 1, none⟩ v2).setCell ⟨K, 2, none⟩ u) := by
  subst hu
  have hvl : vs.length = r.recs.length := by have := h.row.1; omega
  have ho2 := only_grown8 hg
  have oset : Only (fun i => i = K) w2 ((w2.setCell ⟨K, 1, none⟩ v2).setCell ⟨K, 2, none⟩ (.int .i64 ((r.fin + 8 + b.length : Nat) : Int))) :=
    ((Only.refl (fun i => i = K) w2).setCell rfl v2).setCell rfl _
  have hlast : r.recs.length < w2.heap.size ∨ True := Or.inr trivial
  have hv2K : ∀ g, v2.ownBlock = some g → g ≠ K := fun g hg2 e => by
    rcases ho with ho | ho
    · exact (h.ev g (by rw [← ho]; exact hg2)).2 e
    · rw [ho] at hg2; cases hg2; omega
  have keep : ∀ (y : Value) (l : List Nat), w1.ownsRow 0 5 1 y l.length (l.map b8) → (∀ g, y.ownBlock = some g → v.ownBlock ≠ some g) → (∀ g, y.ownBlock = some g → g ≠ K) →
      ((w2.setCell ⟨K, 1, none⟩ v2).setCell ⟨K, 2, none⟩ (.int .i64 ((r.fin + 8 + b.length : Nat) : Int))).ownsRow 0 5 1 y l.length (l.map b8) ∧ ∀ g, y.ownBlock = some g → v2.ownBlock ≠ some g := fun y l hy hd hyK => by
    constructor
    · exact ownsRow_only (ownsRow_only hy ho2 fun g hg3 h3 => hd g hg3 h3) oset fun g hg3 h3 => hyK g hg3 h3
    · intro g hg2 e
      rcases ho with ho | ho
      · exact hd g hg2 (by rw [← ho]; exact e)
      · have := (hy.lt g hg2).2
        rw [ho] at e
        cases e
        omega
  refine ⟨?_, ?_, fun j hj => ?_, fun g hg2 => ⟨?_, hv2K g hg2⟩, fun j hj g hg2 => ?_, Or.inl h.ek, fun k hk => ?_⟩
  · have q1 := (h.r0.only ho2 fun e => (h.ev K e).2 rfl).set 1 v2
    have q2 := q1.set 2 (.int .i64 ((r.fin + 8 + b.length : Nat) : Int))
    exact q2
  · rw [List.length_append]
    exact ownsRow_only h' oset fun g hg2 e => hv2K g hg2 e
  · rw [List.length_append, List.length_singleton] at hj
    by_cases hlt : j < r.recs.length
    · have e1 : (vs ++ [x]).getD j undef = vs.getD j undef := by simp [List.getD, List.getElem?_append_left (show j < vs.length by omega)]
      have e2 : (r.recs ++ [b]).getD j [] = r.recs.getD j [] := by simp [List.getD, List.getElem?_append_left hlt]
      rw [e1, e2]
      exact keep _ _ (h.each j hlt).1 (h.each j hlt).2 fun g hg3 => (h.ee j hlt g hg3).2
    · obtain rfl : j = r.recs.length := by omega
      have e1 : (vs ++ [x]).getD r.recs.length undef = x := by simp [List.getD, ← hvl]
      have e2 : (r.recs ++ [b]).getD r.recs.length [] = b := by simp [List.getD]
      rw [e1, e2]
      exact keep _ _ hs (fun g hg3 => (hsv g hg3).1) fun g hg3 => (hsv g hg3).2.1
  · rcases ho with ho | ho
    · exact Or.inl (h.ev g (by rw [← ho]; exact hg2)).1
    · refine Or.inr ⟨?_, (h'.lt g hg2).2⟩
      rw [ho] at hg2
      cases hg2
      exact hB
  · rw [List.length_append, List.length_singleton] at hj
    by_cases hlt : j < r.recs.length
    · have e1 : (vs ++ [x]).getD j undef = vs.getD j undef := by simp [List.getD, List.getElem?_append_left (show j < vs.length by omega)]
      rw [e1] at hg2
      exact ⟨Or.inl (h.ee j hlt g hg2).1, (h.ee j hlt g hg2).2⟩
    · obtain rfl : j = r.recs.length := by omega
      have e1 : (vs ++ [x]).getD r.recs.length undef = x := by simp [List.getD, ← hvl]
      rw [e1] at hg2
      exact ⟨Or.inr ⟨(hsv g hg2).2.2, Nat.lt_of_lt_of_le (hs.lt g hg2).2 ho2.size⟩, (hsv g hg2).2.1⟩
  · rcases hk with hk | hk
    · have := Nat.lt_of_lt_of_le (h.elt k hk) ho2.size; simpa [World.setCell] using this
    · simpa [World.setCell] using hk.2

set_option maxHeartbeats 4000000 in
theorem free_any {n g h t : Nat} {s : Dsk} (w : World) (H : DAt n g h t s w) (hL : LAt K E ⟨g, 0, none⟩ r v vs w) (hf : r.fin ≤ 64 * n) :
    Calls Try.prog 28 #[.pointer (some ⟨K, 0, none⟩)] w fun e w' => e = .returned (.int .i64 (freeN n r : Int)) ∧ ∃ q, w' = w.drewN q := by
  obtain ⟨k0, k1, k2, k3⟩ := hL.cells
  have hn := H.ok.2.2.2
  have HH := Lib.hid H
  obtain ⟨b, hb⟩ : ∃ b, r.bad = b := ⟨_, rfl⟩
  have HF : Hid ((b = true → freeN n r = 0) ∧ (b = false → ((freeN n r : Nat) : Int) = min (max (64 * (n : Int) - (r.fin : Int) - 8) 0) 1024)) :=
    ⟨fun e => by unfold freeN; rw [hb, e]; rfl, fun e => by unfold freeN; rw [hb, e, if_neg (by simp)]; omega⟩
  rw [hb] at k3
  obtain ⟨x, hx⟩ : ∃ x, freeN n r = x := ⟨_, rfl⟩
  rw [hx] at HF ⊢
  obtain ⟨e, he⟩ : ∃ e, r.fin = e := ⟨_, rfl⟩
  rw [he] at k2 HF hf
  have s1 : IntKind.i64.wrap (64 * (n : Int) - (e : Int)) = 64 * (n : Int) - (e : Int) := IntWalk.i64_in _ (by omega)
  have s2 : IntKind.i64.wrap (64 * (n : Int) - (e : Int) - 8) = 64 * (n : Int) - (e : Int) - 8 := IntWalk.i64_in _ (by omega)
  clear H hL hb hx he k1
  go_enter Try.func28, Try.ntmps28
  cases b
  · have hF := HF.out.2 rfl
    clear HF
    go_wp2_with fail
    go_quiet ((go_at_call 34; exact Calls.quiet_of_same (size_any _ (HH.out.up (below_drewN (Below.refl _ _) _)))))
    go_wp2_with fail
    go_ret
    exact ⟨by rw [hF]; rfl, _, rfl⟩
  · have hF := HF.out.1 rfl
    go_wp2_with fail
    go_ret
    exact ⟨by simp, 0, rfl⟩

set_option maxHeartbeats 4000000 in
theorem check_any {n g h t : Nat} {s : Dsk} (w : World) (H : DAt n g h t s w) (hL : LAt K E ⟨g, 0, none⟩ r v vs w) (hf : r.fin ≤ 64 * n) (a : Option Addr) (m c : Nat) (b : List Nat) (hb : b.length = m) (hm : m ≤ maxLen) :
    Calls Try.prog 46 #[.pointer (some ⟨K, 0, none⟩), .slice a m c] w fun e w' => e = .returned (errv (mayN n r b : Int)) ∧ ∃ q, w' = w.drewN q := by
  obtain ⟨k0, k1, k2, k3⟩ := hL.cells
  have hmm : (m : Int) ≤ 9223372036854775807 := by unfold maxLen at hm; omega
  have hfr := free_any w H hL hf
  clear H hL hf k0 k1 k2
  obtain ⟨x, hx⟩ : ∃ x, mayN n r b = x := ⟨_, rfl⟩
  have HX := Lib.hid hx
  rw [hx]
  clear hx
  obtain ⟨bad, hbad⟩ : ∃ b, r.bad = b := ⟨_, rfl⟩
  have HBAD := Lib.hid hbad
  rw [hbad] at k3
  clear hbad
  cases bad
  · by_cases h1 : m < 1
    · have hx : Hid (x = 1) := by show x = 1; rw [← HX.out, mayN, HBAD.out, if_neg (by simp), if_pos (by omega)]
      have t1 : (m : Int) < 1 := by omega
      go_enter Try.func46, Try.ntmps46
      go_wp2_with fail
      go_ret
      exact ⟨by rw [hx.out]; rfl, 0, rfl⟩
    · by_cases h2 : 1024 < m
      · have hx : Hid (x = 1) := by show x = 1; rw [← HX.out, mayN, HBAD.out, if_neg (by simp), if_pos (by omega)]
        have t1 : ¬ (m : Int) < 1 := by omega
        have t2 : (1024 : Int) < (m : Int) := by omega
        go_enter Try.func46, Try.ntmps46
        go_wp2_with fail
        go_ret
        exact ⟨by rw [hx.out]; rfl, 0, rfl⟩
      · have t1 : ¬ (m : Int) < 1 := by omega
        have t2 : ¬ (1024 : Int) < (m : Int) := by omega
        obtain ⟨f, hff⟩ : ∃ f, freeN n r = f := ⟨_, rfl⟩
        have hx : Hid (x = if f < m then 8 else 0) := by show x = _; rw [← HX.out, mayN, HBAD.out, if_neg (by simp), if_neg (by omega), hff, hb]
        rw [hff] at hfr
        clear hff
        go_enter Try.func46, Try.ntmps46
        go_wp2_with fail
        refine hfr.mono ?_
        rintro e w1 ⟨rfl, q, rfl⟩
        by_cases h3 : f < m
        · have hx2 : Hid (x = 8) := by show x = 8; rw [hx.out, if_pos h3]
          have t3 : (f : Int) < (m : Int) := by omega
          go_wp2_with fail
          go_ret
          exact ⟨by rw [hx2.out]; rfl, q, rfl⟩
        · have hx2 : Hid (x = 0) := by show x = 0; rw [hx.out, if_neg h3]
          have t3 : ¬ (f : Int) < (m : Int) := by omega
          go_wp2_with fail
          go_ret
          exact ⟨by rw [hx2.out]; rfl, q, rfl⟩
  · have hx : Hid (x = 7) := by show x = 7; rw [← HX.out, mayN, HBAD.out, if_pos rfl]
    go_enter Try.func46, Try.ntmps46
    go_wp2_with fail
    go_ret
    exact ⟨by rw [hx.out]; rfl, 0, rfl⟩
end

/-- a write that has its place -/
theorem write_yes {n g h t : Nat} {s : Dsk} (p : Int) (P : Nat) (hP : p = (P : Int)) (a : Option Addr) (m c : Nat) (bs : List Nat) (w : World) (H : DAt n g h t s w) (hb : Cells w a m (bs.map b8)) (hfar : ∀ x, a = some x → m = 0 ∨ ¬ foot g h t x.block) (hp : P + m ≤ 64 * n) :
    Calls Try.prog 15 #[.pointer (some ⟨g, 0, none⟩), .int .i64 p, .slice a m c] w fun e w' => e = .returned .nilIface ∧ DAt n g h t (s.write P bs) w' ∧ Only (foot g h t) w w' := by
  subst hP
  have hn := H.ok.2.2.2
  refine (write_any (P : Int) a m c bs w H (by unfold i64d; omega) hb hfar (by omega)).mono ?_
  rintro e w1 ⟨ho, ⟨-, rfl, hd⟩ | ⟨hx, -, -⟩⟩
  · exact ⟨rfl, by simpa using hd, ho⟩
  · exfalso
    unfold thereD at hx
    simp at hx
    omega

theorem sync_yes {n g h t : Nat} {s : Dsk} (w : World) (H : DAt n g h t s w) :
    Calls Try.prog 16 #[.pointer (some ⟨g, 0, none⟩)] w fun e w' => e = .returned (.tuple #[]) ∧ DAt n g h t s.sync w' ∧ Only (foot g h t) w w' := by
  refine (sync_any w H).mono ?_
  rintro e w1 ⟨rfl, ho, hd⟩
  exact ⟨rfl, hd, ho.mono fun k _ hk => Or.inr (Or.inr hk)⟩

theorem head_cells {g m : Nat} {w : World} (h : Row g 5 ((headN m).map b8) w) : Cells w (some ⟨g, 0, none⟩) 8 ((headN m).map b8) := by
  have h1 := h.cells
  rw [List.length_map, headN_len] at h1
  exact h1

theorem far_new {g h t N L : Nat} (hl : g < N ∧ h < N ∧ t < N) : ∀ x, some (⟨N, 0, none⟩ : Addr) = some x → L = 0 ∨ ¬ foot g h t x.block := fun x hx => Or.inr fun hf => by
  cases hx
  rcases hf with h1 | h1 | h1
  · have h2 : N = g := h1; omega
  · have h2 : N = h := h1; omega
  · have h2 : N = t := h1; omega

/-- what is held while a record is put -/
structure Putting (n g h t : Nat) (s : Dsk) (K e : Nat) (a : Option Addr) (m : Nat) (b : List Nat) (w W : World) : Prop where
  dk : DAt n g h t s W
  c0 : W.cell? ⟨K, 0, none⟩ = some (.pointer (some ⟨g, 0, none⟩))
  c2 : W.cell? ⟨K, 2, none⟩ = some (.int .i64 (e : Int))
  bs : Cells W a m (b.map b8)
  only : Only (foot g h t) w W
section
variable {n g h t : Nat} {s s' : Dsk} {K e : Nat} {a : Option Addr} {m : Nat} {b : List Nat} {w W W' : World}
theorem Putting.turn (H : Putting n g h t s K e a m b w W) (hK : ¬ foot g h t K) (hf : ∀ x, a = some x → m = 0 ∨ ¬ foot g h t x.block) (hd : DAt n g h t s' W') (ho : Only (foot g h t) W W') : Putting n g h t s' K e a m b w W' := by
  have hKl : K < W.heap.size := cell_lt H.c0
  refine ⟨hd, ?_, ?_, ?_, H.only.trans ho⟩
  · rw [World.cell?_of_block (w := W) (ho.block K hKl hK)]; exact H.c0
  · rw [World.cell?_of_block (w := W) (ho.block K hKl hK)]; exact H.c2
  · obtain ⟨h1, h2⟩ := H.bs
    refine ⟨h1, ?_⟩
    rcases h2 with h0 | ⟨b', off, rfl, hcc⟩
    · exact Or.inl h0
    · by_cases h0 : m = 0
      · exact Or.inl h0
      · refine Or.inr ⟨b', off, rfl, fun j hj => ?_⟩
        rw [World.cell?_of_block (w := W) (ho.block b' (cell_lt (hcc j hj)) ((hf _ rfl).resolve_left h0))]
        exact hcc j hj
theorem Putting.up (H : Putting n g h t s K e a m b w W) (hb : Below W.heap.size W W') : Putting n g h t s K e a m b w W' :=
  ⟨H.dk.up hb, by rw [hb.cell (p := ⟨K, 0, none⟩) (cell_lt H.c0)]; exact H.c0, by rw [hb.cell (p := ⟨K, 2, none⟩) (cell_lt H.c2)]; exact H.c2, H.bs.upB hb, H.only.trans (Only.of_below hb)⟩
end

set_option maxRecDepth 100000 in
set_option maxHeartbeats 16000000 in
theorem put_any {n g h t : Nat} {s : Dsk} {K : Nat} (r : Jr) (a : Option Addr) (m c : Nat) (b : List Nat) (k : Int) (w : World) (H : Putting n g h t s K r.fin a m b w w) (hK : ¬ foot g h t K) (hf : ∀ x, a = some x → m = 0 ∨ ¬ foot g h t x.block)
    (hm1 : m ≤ 1024) (hm2 : r.fin + 8 + m ≤ 64 * n) (hk : 1 ≤ k ∧ k ≤ 4) :
    Calls Try.prog 47 #[.pointer (some ⟨K, 0, none⟩), .slice a m c, .int .i64 k] w fun e w' => e = .returned .nilIface ∧ DAt n g h t (stgS s r b k) w' ∧ Only (foot g h t) w w' := by
  have hbl : b.length = m := by have := H.bs.1; rwa [List.length_map] at this
  have HBL := Lib.hid hbl
  have hn := H.dk.ok.2.2.2
  obtain ⟨e, he⟩ : ∃ e, r.fin = e := ⟨_, rfl⟩
  have HE := Lib.hid he
  rw [he] at H hm2
  have H0 := Lib.hid H
  have HK := Lib.hid hK
  have HF := Lib.hid hf
  have s1 : IntKind.i64.wrap ((e : Int) + 8) = (e : Int) + 8 := IntWalk.i64_in _ (by omega)
  have hT := Lib.hid (H.up (Below.drew (Below.refl _ _)))
  clear H hK hf hbl he
  go_enter Try.func47, Try.ntmps47
  go_wp2_with fail
  go_region_held3 (fun w' => w'.cell? ⟨K, 0, none⟩ = some (.pointer (some ⟨g, 0, none⟩)) ∧ w'.cell? ⟨K, 2, none⟩ = some (.int .i64 (e : Int)))
    (exact ⟨hT.out.c0, hT.out.c2⟩)
    (first
      | (go_at_call 15; with_reducible refine (write_yes ((e : Int) + 8) (e + 8) (by omega) a m c b _ hT.out.dk hT.out.bs HF.out (by omega)).mono ?_; rintro ed w1 ⟨rfl, hd1, ho1⟩; have hT := Lib.hid (hT.out.turn HK.out HF.out hd1 ho1); clear hd1 ho1))
  have hk4 : k = 1 ∨ k = 2 ∨ k = 3 ∨ k = 4 := by omega
  clear hk
  rcases hk4 with rfl | rfl | rfl | rfl
  · go_wp2_with fail
    go_ret
    exact ⟨by simp, by rw [show stgS s r b 1 = s.write (r.fin + 8) b from rfl, HE.out]; exact hT.out.dk, hT.out.only⟩
  · have c0 := hT.out.c0
    go_wp2_with fail
    refine (sync_yes _ hT.out.dk).mono ?_
    rintro ed w2 ⟨rfl, hd2, ho2⟩
    have hT := Lib.hid (hT.out.turn HK.out HF.out hd2 ho2)
    clear hd2 ho2
    go_wp2_with fail
    go_ret
    exact ⟨by simp, by rw [show stgS s r b 2 = (s.write (r.fin + 8) b).sync from rfl, HE.out]; exact hT.out.dk, hT.out.only⟩
  all_goals
    have c0 := hT.out.c0
    go_wp2_with fail
    refine (sync_yes _ hT.out.dk).mono ?_
    rintro ed w2 ⟨rfl, hd2, ho2⟩
    have HT2 := Lib.hid (hT.out.turn HK.out HF.out hd2 ho2)
    have hT := Lib.hid (HT2.out.up (Below.drew (Below.refl _ _)))
    have hsz2 : w2.drew.heap.size = w2.heap.size := rfl
    have HN3 : Hid (∀ x, some (⟨w2.heap.size, 0, none⟩ : Addr) = some x → 8 = 0 ∨ ¬ foot g h t x.block) := far_new HT2.out.dk.lt
    clear hd2 ho2 c0
    go_wp2_with fail
    go_region_held3 (fun w' => w'.cell? ⟨K, 0, none⟩ = some (.pointer (some ⟨g, 0, none⟩)) ∧ w'.cell? ⟨K, 2, none⟩ = some (.int .i64 (e : Int)))
      (exact ⟨hT.out.c0, hT.out.c2⟩)
      (first
        | (go_at_call 52; with_reducible refine (head_any m hm1 _).mono ?_; rintro ed w3 ⟨rfl, hr3, hb3⟩; rw [hsz2] at hr3; have HR3 := Lib.hid (head_cells hr3); have hT := Lib.hid (hT.out.up hb3); clear hr3 hb3)
        | (go_at_call 15; with_reducible refine (write_yes (e : Int) e rfl _ 8 8 (headN m) _ hT.out.dk HR3.out HN3.out (by omega)).mono ?_; rintro ed w4 ⟨rfl, hd4, ho4⟩; have hT := Lib.hid (hT.out.turn HK.out HF.out hd4 ho4); clear hd4 ho4))
  · go_wp2_with fail
    go_ret
    exact ⟨by simp, by rw [show stgS s r b 3 = ((s.write (r.fin + 8) b).sync).write r.fin (headN b.length) from rfl, HE.out, HBL.out]; exact hT.out.dk, hT.out.only⟩
  · have c0 := hT.out.c0
    go_wp2_with fail
    refine (sync_yes _ hT.out.dk).mono ?_
    rintro ed w5 ⟨rfl, hd5, ho5⟩
    have hT := Lib.hid (hT.out.turn HK.out HF.out hd5 ho5)
    clear hd5 ho5
    go_wp2_with fail
    go_ret
    exact ⟨by simp, by rw [show stgS s r b 4 = (((s.write (r.fin + 8) b).sync).write r.fin (headN b.length)).sync from rfl, HE.out, HBL.out]; exact hT.out.dk, hT.out.only⟩

theorem zeros_new (w : World) (m : Nat) : Cells (w.alloc (Obj.cells (Array.replicate m (Value.int .u8 0)) 5)) (some ⟨w.heap.size, 0, none⟩) m ((List.replicate m 0).map b8) := by
  have h := Row.new w (List.replicate m (Value.int .u8 0)) 5
  rw [List.toArray_replicate] at h
  have h2 := h.cells
  rw [List.length_replicate] at h2
  have e : (List.replicate m 0).map b8 = List.replicate m (Value.int .u8 0) := by rw [List.map_replicate]; rfl
  rw [e]
  exact h2

set_option maxRecDepth 100000 in
set_option maxHeartbeats 16000000 in
theorem clear_any {n g h t : Nat} {s : Dsk} {K e : Nat} (a : Option Addr) (m c : Nat) (rest : List Nat) (w : World) (H : Putting n g h t s K e a m rest w w) (hK : ¬ foot g h t K) (hf : ∀ x, a = some x → m = 0 ∨ ¬ foot g h t x.block)
    (h256 : ∀ x ∈ rest, x < 256) (hm : e + m ≤ 64 * n) :
    Calls Try.prog 42 #[.pointer (some ⟨K, 0, none⟩), .slice a m c] w fun ed w' => ed = .returned .nilIface ∧ Only (foot g h t) w w' ∧
      DAt n g h t (if rest.any (· != 0) = true then (s.write e (List.replicate m 0)).sync else s) w' := by
  have hn := H.dk.ok.2.2.2
  have hcf := containsFunc_any a m c rest w H.bs h256 (by omega)
  obtain ⟨o, ho⟩ : ∃ o, rest.any (· != 0) = o := ⟨_, rfl⟩
  rw [ho] at hcf ⊢
  have H0 := Lib.hid H
  have HK := Lib.hid hK
  have HF := Lib.hid hf
  have hT := Lib.hid (H.up (Below.drew (Below.refl _ _)))
  clear H hK hf h256 ho
  cases o
  · go_enter Try.func42, Try.ntmps42
    go_wp2_with fail
    refine hcf.mono ?_
    rintro ed w1 ⟨rfl, rfl⟩
    go_wp2_with fail
    go_ret
    exact ⟨rfl, Only.refl _ _, H0.out.dk⟩
  · have hm1 := run_make_row' (P := Try.prog) 27 5 (.int .u8 0) 1 Try.underlying27 info_u8 rfl .i64 .i64 m (by omega) (by omega)
    simp only [made_rep, List.toArray_replicate] at hm1
    have hba : Below w.heap.size w (w.alloc (Obj.cells (Array.replicate m (Value.int .u8 0)) 5)).drew := Below.drew ((Below.refl _ _).alloc (Nat.le_refl _) _)
    have HTA := Lib.hid (H0.out.up hba)
    have HCZ : Hid (Cells (w.alloc (Obj.cells (Array.replicate m (Value.int .u8 0)) 5)).drew (some ⟨w.heap.size, 0, none⟩) m ((List.replicate m 0).map b8)) := (zeros_new w m).upB (Below.drew (Below.refl _ _))
    clear hba
    have HFN : Hid (∀ x, some (⟨w.heap.size, 0, none⟩ : Addr) = some x → m = 0 ∨ ¬ foot g h t x.block) := far_new H0.out.dk.lt
    have c0 := hT.out.c0
    go_enter Try.func42, Try.ntmps42
    go_wp2_with fail
    refine hcf.mono ?_
    rintro ed w1 ⟨rfl, rfl⟩
    go_wp2_with fail
    go_region_held3 (fun w' => w'.cell? ⟨K, 0, none⟩ = some (.pointer (some ⟨g, 0, none⟩)) ∧ w'.cell? ⟨K, 2, none⟩ = some (.int .i64 (e : Int)))
      (first | exact ⟨hT.out.c0, hT.out.c2⟩ | exact ⟨HTA.out.c0, HTA.out.c2⟩)
      (first
        | (go_at_call 15; with_reducible refine (write_yes (e : Int) e rfl _ m m (List.replicate m 0) _ HTA.out.dk HCZ.out HFN.out hm).mono ?_; rintro ed w4 ⟨rfl, hd4, ho4⟩; have hT := Lib.hid (HTA.out.turn HK.out HF.out hd4 ho4); clear hd4 ho4))
    have c0 := hT.out.c0
    go_wp2_with fail
    refine (sync_yes _ hT.out.dk).mono ?_
    rintro ed w5 ⟨rfl, hd5, ho5⟩
    have hT := Lib.hid (hT.out.turn HK.out HF.out hd5 ho5)
    clear hd5 ho5
    go_wp2_with fail
    go_ret
    exact ⟨by simp, hT.out.only, hT.out.dk⟩
end Go.Proofs.Ytehfbafocbcfnaa
