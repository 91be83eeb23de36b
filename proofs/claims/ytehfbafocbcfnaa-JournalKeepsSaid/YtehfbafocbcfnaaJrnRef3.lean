/- The document's answer of layer 8: a journal as it lies, what it tells. -/
import Derived.Test.YtehfbafocbcfnaaJrnRef2
import Derived.Test.YtehfbafocbcfnaaDiskRef4
namespace Go.Proofs.Ytehfbafocbcfnaa
open Go Go.RowKit
set_option linter.unusedVariables false

/-- a model of a journal over the model G of a disk, in the blocks of Z -/
structure KAt (G : Lies) (K : Nat) (Z : Nat → Prop) (r : Jr) (v : Value) (vs : List Value) (w : World) : Prop where
  r0 : Row K 56 [.pointer (some ⟨G.g0, 0, none⟩), v, .int .i64 (r.fin : Int), .bool r.bad] w
  row : w.ownsRow 0 27 1 v r.recs.length vs
  each : ∀ j, j < r.recs.length → w.ownsRow 0 5 1 (vs.getD j undef) (r.recs.getD j []).length ((r.recs.getD j []).map b8) ∧ ∀ g, (vs.getD j undef).ownBlock = some g → v.ownBlock ≠ some g
  zv : ∀ g, v.ownBlock = some g → Z g ∧ g ≠ K
  ze : ∀ j, j < r.recs.length → ∀ g, (vs.getD j undef).ownBlock = some g → Z g ∧ g ≠ K
  zk : Z K
  zlt : ∀ k, Z k → k < w.heap.size

theorem ownsRow_only {X : Nat → Prop} {w w' : World} {base : Nat} {e : TypeId} {size : Nat} {v : Value} {n : Nat} {xs : List Value} (h : w.ownsRow base e size v n xs) (ho : Only X w w') (hX : ∀ g, v.ownBlock = some g → ¬ X g) : w'.ownsRow base e size v n xs := by
  obtain ⟨h1, h2⟩ := h
  refine ⟨h1, ?_⟩
  rcases h2 with h2 | ⟨g, cap, cur, hv, hg, hh, r⟩
  · exact Or.inl h2
  · refine Or.inr ⟨g, cap, cur, hv, hg, ?_, r⟩
    have hlt : g < w.heap.size := by
      rcases Nat.lt_or_ge g w.heap.size with h' | h'
      · exact h'
      · rw [Array.getElem?_eq_none h'] at hh; cases hh
    rw [ho.block g hlt (hX g (by rw [hv]; rfl))]
    exact hh

section
variable {G : Lies} {K : Nat} {Z : Nat → Prop} {r : Jr} {v : Value} {vs : List Value} {w w' : World}

theorem KAt.only {X : Nat → Prop} (h : KAt G K Z r v vs w) (ho : Only X w w') (hX : ∀ k, X k → ¬ Z k) : KAt G K Z r v vs w' :=
  ⟨h.r0.only ho fun hx => hX _ hx h.zk, ownsRow_only h.row ho fun g hg hx => hX g hx (h.zv g hg).1, fun j hj => ⟨ownsRow_only (h.each j hj).1 ho fun g hg hx => hX g hx (h.ze j hj g hg).1, (h.each j hj).2⟩, h.zv, h.ze, h.zk, fun k hk => Nat.lt_of_lt_of_le (h.zlt k hk) ho.size⟩
theorem KAt.up (h : KAt G K Z r v vs w) (hb : Below w.heap.size w w') : KAt G K Z r v vs w' := h.only (X := fun _ => False) (Only.of_below hb) fun _ hf => hf.elim
theorem KAt.drewN (h : KAt G K Z r v vs w) (q : Nat) : KAt G K Z r v vs (w.drewN q) := h.up (below_drewN (Below.refl _ _) q)
theorem KAt.cells (h : KAt G K Z r v vs w) : w.cell? ⟨K, 0, none⟩ = some (.pointer (some ⟨G.g0, 0, none⟩)) ∧ w.cell? ⟨K, 1, none⟩ = some v ∧ w.cell? ⟨K, 2, none⟩ = some (.int .i64 (r.fin : Int)) ∧ w.cell? ⟨K, 3, none⟩ = some (.bool r.bad) :=
  ⟨h.r0.cell (j := 0) (by simp), h.r0.cell (j := 1) (by simp), h.r0.cell (j := 2) (by simp), h.r0.cell (j := 3) (by simp)⟩
theorem KAt.owns (h : KAt G K Z r v vs w) : OwnRecs 0 v r.recs w := ⟨vs, h.row, h.each⟩

theorem freeN_int {n : Nat} {r : Jr} (h : r.bad = false) : ((freeN n r : Nat) : Int) = if 64 * (n : Int) - (r.fin : Int) - 8 < 0 then 0 else if 1024 < 64 * (n : Int) - (r.fin : Int) - 8 then 1024 else 64 * (n : Int) - (r.fin : Int) - 8 := by
  unfold freeN
  rw [h, if_neg (by simp)]
  repeat' split
  all_goals omega


set_option maxHeartbeats 4000000 in
theorem refFree8_any (n : Nat) (s : Dsk) (hM : MAt n G s w) (h : KAt G K Z r v vs w) (hf : r.fin ≤ 64 * n) :
    Calls Try.prog 35 #[.pointer (some ⟨K, 0, none⟩)] w fun e w' => e = .returned (.int .i64 (freeN n r : Int)) ∧ ∃ q, w' = w.drewN q := by
  obtain ⟨m0, m1, m2⟩ := hM.cells
  obtain ⟨k0, k1, k2, k3⟩ := h.cells
  have hn := hM.ok.2.2.2
  obtain ⟨b, hb⟩ : ∃ b, r.bad = b := ⟨_, rfl⟩
  have HF : Hid ((b = true → freeN n r = 0) ∧ (b = false → ((freeN n r : Nat) : Int) = if 64 * (n : Int) - (r.fin : Int) - 8 < 0 then 0 else if 1024 < 64 * (n : Int) - (r.fin : Int) - 8 then 1024 else 64 * (n : Int) - (r.fin : Int) - 8)) :=
    ⟨fun e => by unfold freeN; rw [hb, e]; rfl, fun e => freeN_int (by rw [hb, e])⟩
  rw [hb] at k3
  obtain ⟨x, hx⟩ : ∃ x, freeN n r = x := ⟨_, rfl⟩
  rw [hx] at HF ⊢
  obtain ⟨e, he⟩ : ∃ e, r.fin = e := ⟨_, rfl⟩
  rw [he] at k2 HF hf
  have s1 : IntKind.i64.wrap (64 * (n : Int) - (e : Int)) = 64 * (n : Int) - (e : Int) := IntWalk.i64_in _ (by omega)
  have s2 : IntKind.i64.wrap (64 * (n : Int) - (e : Int) - 8) = 64 * (n : Int) - (e : Int) - 8 := IntWalk.i64_in _ (by omega)
  clear hM h hb hx he k1 m0 m2
  go_enter Try.func35, Try.ntmps35
  go_wp2_with fail
  go_region_held3 (fun w' => w'.cell? ⟨K, 0, none⟩ = some (.pointer (some ⟨G.g0, 0, none⟩)) ∧ w'.cell? ⟨G.g0, 1, none⟩ = some (.slice (some ⟨G.g2, 0, none⟩) (64 * n) (64 * n)) ∧ w'.cell? ⟨K, 2, none⟩ = some (.int .i64 (e : Int)))
    (first | exact ⟨k0, m1, k2⟩ | assumption) (fail)
  cases b
  · have hF := HF.out.2 rfl
    by_cases h1 : 64 * (n : Int) - (e : Int) - 8 < 0
    · rw [if_pos h1] at hF
      go_wp2_with fail
      go_ret
      exact ⟨by first | rfl | simp, 1, rfl⟩
    · rw [if_neg h1] at hF
      by_cases h2 : 1024 < 64 * (n : Int) - (e : Int) - 8
      · rw [if_pos h2] at hF
        go_wp2_with fail
        go_ret
        exact ⟨by first | rfl | simp, 1, rfl⟩
      · rw [if_neg h2] at hF
        go_wp2_with fail
        go_ret
        exact ⟨by first | rfl | simp, 1, rfl⟩
  · have hF := HF.out.1 rfl
    by_cases h1 : 64 * (n : Int) - (e : Int) - 8 < 0
    · go_wp2_with fail
      go_ret
      exact ⟨by first | rfl | simp, 1, rfl⟩
    · go_wp2_with fail
      go_ret
      exact ⟨by first | rfl | simp, 1, rfl⟩

set_option maxHeartbeats 4000000 in
theorem refMay8_any (n : Nat) (s : Dsk) (hM : MAt n G s w) (h : KAt G K Z r v vs w) (hf : r.fin ≤ 64 * n) (a : Option Addr) (m c : Nat) (b : List Nat) (hb : b.length = m) (hm : m ≤ maxLen) :
    Calls Try.prog 30 #[.pointer (some ⟨K, 0, none⟩), .slice a m c] w fun e w' => e = .returned (.int .i64 (mayN n r b : Int)) ∧ ∃ q, w' = w.drewN q := by
  obtain ⟨k0, k1, k2, k3⟩ := h.cells
  have hmm : (m : Int) ≤ 9223372036854775807 := by unfold maxLen at hm; omega
  have HM := Lib.hid hM
  have HK := Lib.hid h
  have HF := Lib.hid hf
  clear hM h hf
  obtain ⟨x, hx⟩ : ∃ x, mayN n r b = x := ⟨_, rfl⟩
  have HX := Lib.hid hx
  rw [hx]
  clear hx
  obtain ⟨bad, hbad⟩ : ∃ b, r.bad = b := ⟨_, rfl⟩
  have HBAD := Lib.hid hbad
  rw [hbad] at k3
  clear hbad
  cases bad
  · by_cases h1 : m < 1
    · have hx : Hid (x = 1) := by show x = 1; rw [← HX.out, mayN, HBAD.out, if_neg (by simp), if_pos (by omega)]
      have t1 : (m : Int) < 1 := by omega
      go_enter Try.func30, Try.ntmps30
      go_wp2_with fail
      go_ret
      exact ⟨by rw [hx.out]; rfl, 0, rfl⟩
    · by_cases h2 : 1024 < m
      · have hx : Hid (x = 1) := by show x = 1; rw [← HX.out, mayN, HBAD.out, if_neg (by simp), if_pos (by omega)]
        have t1 : ¬ (m : Int) < 1 := by omega
        have t2 : (1024 : Int) < (m : Int) := by omega
        go_enter Try.func30, Try.ntmps30
        go_wp2_with fail
        go_ret
        exact ⟨by rw [hx.out]; rfl, 0, rfl⟩
      · have t1 : ¬ (m : Int) < 1 := by omega
        have t2 : ¬ (1024 : Int) < (m : Int) := by omega
        obtain ⟨f, hfr⟩ : ∃ f, freeN n r = f := ⟨_, rfl⟩
        have hx : Hid (x = if f < m then 8 else 0) := by show x = _; rw [← HX.out, mayN, HBAD.out, if_neg (by simp), if_neg (by omega), hfr, hb]
        have HFR := Lib.hid hfr
        clear hfr
        go_enter Try.func30, Try.ntmps30
        go_wp2_with fail
        refine (refFree8_any n s HM.out HK.out HF.out).mono ?_
        rintro e w1 ⟨rfl, q, rfl⟩
        rw [HFR.out]
        by_cases h3 : f < m
        · have hx2 : Hid (x = 8) := by show x = 8; rw [hx.out, if_pos h3]
          have t3 : (f : Int) < (m : Int) := by omega
          go_wp2_with fail
          go_ret
          exact ⟨by rw [hx2.out]; rfl, q, rfl⟩
        · have hx2 : Hid (x = 0) := by show x = 0; rw [hx.out, if_neg h3]
          have t3 : ¬ (f : Int) < (m : Int) := by omega
          go_wp2_with fail
          go_ret
          exact ⟨by rw [hx2.out]; rfl, q, rfl⟩
  · have hx : Hid (x = 7) := by show x = 7; rw [← HX.out, mayN, HBAD.out, if_pos rfl]
    go_enter Try.func30, Try.ntmps30
    go_wp2_with fail
    go_ret
    exact ⟨by rw [hx.out]; rfl, 0, rfl⟩
end
end Go.Proofs.Ytehfbafocbcfnaa
