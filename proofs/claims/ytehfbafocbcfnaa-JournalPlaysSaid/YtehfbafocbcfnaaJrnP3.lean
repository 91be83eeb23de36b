/- A deed, done with a disk, its journal and their models. -/
import Derived.Test.YtehfbafocbcfnaaJrnP2
import Derived.Test.YtehfbafocbcfnaaJrnL2
namespace Go.Proofs.Ytehfbafocbcfnaa
open Go Go.RowKit
set_option linter.unusedVariables false

def Inv (n c : Nat) (s : Dsk) (r : Jr) : Prop := s.byt ∧ Byts r.recs ∧ r.fin ≤ 64 * n ∧ r.recs.length ≤ c
theorem Inv.open' {n : Nat} {s : Dsk} (h : s.byt) (hl : s.nw.length = 64 * n) : Inv n (64 * n) (openS s) (openR s) := by
  refine ⟨byt_openS h, openS_byt_recs h, ?_, ?_⟩
  · have := endOf_le s.nw; show endOf s.nw ≤ _; omega
  · have := scanN_count s.nw s.nw.length 0; show (recsOf s.nw).length ≤ _; unfold recsOf; omega
theorem Inv.stg {n c : Nat} {s : Dsk} {r : Jr} {b : List Nat} (h : Inv n c s r) (hm : mayN n r b = 0) (hb : ∀ x ∈ b, x < 256) (k : Int) : Inv n (c + 1) (stgS s r b k) (stgR r b k) := by
  obtain ⟨h1, h2, h3, h4⟩ := h
  obtain ⟨-, -, -, h5⟩ := may_zero hm
  refine ⟨byt_stgS h1 r hb k, ?_⟩
  unfold stgR
  split
  · exact ⟨h2.snoc hb, h5, by show (r.recs ++ [b]).length ≤ _; rw [List.length_append, List.length_singleton]; omega⟩
  · exact ⟨h2, h3, by show r.recs.length ≤ _; omega⟩
theorem Inv.le {n c c' : Nat} {s : Dsk} {r : Jr} (h : Inv n c s r) (hc : c ≤ c') : Inv n c' s r := ⟨h.1, h.2.1, h.2.2.1, Nat.le_trans h.2.2.2 hc⟩
theorem may_le (n : Nat) (r : Jr) (b : List Nat) : mayN n r b ≤ 8 := by
  unfold mayN; repeat' split
  all_goals omega
theorem start_le (n : Nat) (r : Jr) (b : List Nat) (k : Int) : startN n r b k ≤ 8 := by
  unfold startN; split
  · split <;> omega
  · exact may_le n r b

section
variable {D : Nat → (Nat → Prop) → Addr → Dsk → World → Prop} {J : Nat → (Nat → Prop) → Addr → Addr → Jr → World → Prop} {n : Nat} {d j : Addr} {s t : Dsk} {r q : Jr} {G : Lies} {Kb : Nat} {Z : Nat → Prop} {v : Value} {vs : List Value} {g bx : Nat} {xs : List Value} {K : Nat → Prop} {w W W' : World}

theorem PJ.grow (DC : DiskC D) (JC : JrnC D J) (h : PJ D J n d j s r t q G Kb Z v vs g K w W) (hb : Below W.heap.size W W') : PJ D J n d j s r t q G Kb Z v vs g (fun k => K k ∨ (W.heap.size ≤ k ∧ k < W'.heap.size)) w W' :=
  ⟨h.jh.own DC JC (Only.of_below hb) fun k hk => hk.imp id (·.1), h.md.up hb, h.kt.up hb, h.row.up hb, fun k hk => Or.inl (h.kg k hk), fun k hk => Or.inl (h.kz k hk), Or.inl h.kp, h.gz, h.gg, h.zg, fun k hk => hk.elim (fun h' => Nat.lt_of_lt_of_le (h.lt k h') hb.size) (·.2)⟩

/-- beside a deed's variable -/
structure OJ (D : Nat → (Nat → Prop) → Addr → Dsk → World → Prop) (J : Nat → (Nat → Prop) → Addr → Addr → Jr → World → Prop) (n : Nat) (d j : Addr) (s : Dsk) (r : Jr) (t : Dsk) (q : Jr) (G : Lies) (Kb : Nat) (Z : Nat → Prop) (v : Value) (vs : List Value) (g bx : Nat) (xs : List Value) (K : Nat → Prop) (w W : World) : Prop where
  pj : PJ D J n d j s r t q G Kb Z v vs g K w W
  box : Row bx 30 xs W
  kb : K bx
  gb : ¬ G.all bx
  zb : ¬ Z bx
theorem OJ.up (DC : DiskC D) (JC : JrnC D J) (h : OJ D J n d j s r t q G Kb Z v vs g bx xs K w W) (hb : Below W.heap.size W W') : OJ D J n d j s r t q G Kb Z v vs g bx xs K w W' := ⟨h.pj.up DC JC hb, h.box.up hb, h.kb, h.gb, h.zb⟩
theorem OJ.left {s' : Dsk} {r' : Jr} (h : OJ D J n d j s r t q G Kb Z v vs g bx xs K w W) (hj : JH D J n d j s' r' K w W') (hl : Lets K w W W') : OJ D J n d j s' r' t q G Kb Z v vs g bx xs K w W' := by
  have hp := h.pj.left hj hl
  obtain ⟨X, h1, h2, -⟩ := hl
  exact ⟨hp, h.box.only h1 fun hx => h2 _ hx h.kb, h.kb, h.gb, h.zb⟩
theorem OJ.right (DC : DiskC D) (JC : JrnC D J) {t' : Dsk} {q' : Jr} {Z' : Nat → Prop} {v' : Value} {vs' : List Value} (h : OJ D J n d j s r t q G Kb Z v vs g bx xs K w W) (ho : Only (fun i => G.all i ∨ Z i) W W') (hm : MAt n G t' W') (hk : KAt G Kb Z' q' v' vs' W') (hZ : ∀ i, Z' i → Z i ∨ W.heap.size ≤ i) :
    OJ D J n d j s r t' q' G Kb Z' v' vs' g bx xs (fun k => K k ∨ (W.heap.size ≤ k ∧ k < W'.heap.size)) w W' :=
  ⟨h.pj.right DC JC ho hm hk hZ, h.box.only ho fun hx => hx.elim h.gb h.zb, Or.inl h.kb, h.gb, fun hz => (hZ bx hz).elim h.zb fun h' => by have := h.pj.lt bx h.kb; omega⟩
theorem OJ.c8 {k st : Int} {ab ap : Option Addr} {nb cb np cp : Nat} (h : OJ D J n d j s r t q G Kb Z v vs g bx [.int .i64 k, .int .i64 st, .slice ab nb cb, .slice ap np cp] K w W) : (W.cell? ⟨g, 0, none⟩ = some (.pointer (some d)) ∧ W.cell? ⟨g, 1, none⟩ = some (.pointer (some j)) ∧ W.cell? ⟨g, 2, none⟩ = some (.pointer (some ⟨G.g0, 0, none⟩)) ∧ W.cell? ⟨g, 3, none⟩ = some (.pointer (some ⟨Kb, 0, none⟩)) ∧ W.cell? ⟨bx, 0, none⟩ = some (.int .i64 k) ∧ W.cell? ⟨bx, 1, none⟩ = some (.int .i64 st) ∧ W.cell? ⟨bx, 2, none⟩ = some (.slice ab nb cb) ∧ W.cell? ⟨bx, 3, none⟩ = some (.slice ap np cp)) :=
  ⟨(pair_cells h.pj.row).1, (pair_cells h.pj.row).2.1, (pair_cells h.pj.row).2.2.1, (pair_cells h.pj.row).2.2.2, h.box.cell (j := 0) (by simp), h.box.cell (j := 1) (by simp), h.box.cell (j := 2) (by simp), h.box.cell (j := 3) (by simp)⟩

theorem row_lets {e : TypeId} (h : Row bx e xs W) (hl : Lets K w W W') (hk : K bx) : Row bx e xs W' := by
  obtain ⟨X, h1, h2, -⟩ := hl
  exact h.only h1 fun hx => h2 _ hx hk
theorem far_model {a : Option Addr} {m : Nat} {X : Nat → Prop} (h : ∀ x, a = some x → m = 0 ∨ x.block < w.heap.size) (hX : ∀ k, X k → w.heap.size ≤ k) : ∀ x, a = some x → m = 0 ∨ ¬ X x.block := fun x hx => (h x hx).imp id fun h1 h2 => by have := hX _ h2; omega

def Done (D : Nat → (Nat → Prop) → Addr → Dsk → World → Prop) (J : Nat → (Nat → Prop) → Addr → Addr → Jr → World → Prop) (n c : Nat) (d : Addr) (G : Lies) (g : Nat) (w : World) (e : Ending) (w' : World) : Prop :=
  e = .returned (.bool true) ∧ ∃ j s r Kb Z v vs K, PJ D J n d j s r s r G Kb Z v vs g K w w' ∧ Inv n c s r

set_option maxRecDepth 100000 in
set_option maxHeartbeats 16000000 in
theorem one8_any (DC : Hid (DiskC D)) (JC : Hid (JrnC D J)) (h : PJ D J n d j s r s r G Kb Z v vs g K w W) (c : Nat) (hI : Inv n c s r) (hc : 64 * n ≤ c) (hc2 : c ≤ 100000)
    (k st : Int) (ab : Option Addr) (nb cb : Nat) (bs : List Nat) (ap : Option Addr) (np cp : Nat) (ps : List Int) (hk : i64d k) (hst : i64d st)
    (hb : Cells w ab nb (bs.map b8)) (h256 : ∀ x ∈ bs, x < 256) (hcb : nb ≤ cb) (hmb : cb ≤ maxLen) (hp : Elems w ap np ps) (hcp : np ≤ cp) (hnp : np ≤ 2000) :
    Calls Try.prog 12 #[.pointer (some ⟨g, 0, none⟩), .agg #[.int .i64 k, .int .i64 st, .slice ab nb cb, .slice ap np cp]] W (Done D J n (c + 1) d G g w) := by
  have hbox : Below W.heap.size W (W.alloc (Obj.cells #[.int .i64 k, .int .i64 st, .slice ab nb cb, .slice ap np cp] 30)) := (Below.refl _ _).alloc (Nat.le_refl _) _
  have hW : W.heap.size < (W.alloc (Obj.cells #[.int .i64 k, .int .i64 st, .slice ab nb cb, .slice ap np cp] 30)).heap.size := by simp
  have HO : Hid (OJ D J n d j s r s r G Kb Z v vs g W.heap.size [.int .i64 k, .int .i64 st, .slice ab nb cb, .slice ap np cp] (fun i => K i ∨ (W.heap.size ≤ i ∧ i < (W.alloc (Obj.cells #[.int .i64 k, .int .i64 st, .slice ab nb cb, .slice ap np cp] 30)).heap.size)) w (W.alloc (Obj.cells #[.int .i64 k, .int .i64 st, .slice ab nb cb, .slice ap np cp] 30))) :=
    ⟨h.grow DC.out JC.out hbox, Row.new W _ _, Or.inr ⟨Nat.le_refl _, hW⟩, fun hg => by have := h.lt _ (h.kg _ hg); omega, fun hz => by have := h.lt _ (h.kz _ hz); omega⟩
  have HI := Lib.hid hI
  have HF1 := Lib.hid hI.2.2.1
  have HRL1 : Hid (r.recs.length ≤ 1000000) := by have := hI.2.2.2; show _ ≤ _; omega
  have HB := Lib.hid hb
  have HB2 := Lib.hid (And.intro h256 hmb)
  have HP := Lib.hid hp
  have HKS := Lib.hid (And.intro hk hst)
  have HBL : Hid (bs.length = nb) := by have := hb.1; rw [List.length_map] at this; exact this
  have hnb : (nb : Int) ≤ 9223372036854775807 := by unfold maxLen at hmb; omega
  have re := fun (w : World) (a b : Int) => run_eql_code w a b
  clear h hbox hW hI hb h256 hmb hp hk hst
  go_enter Try.func12, Try.ntmps12
  go_wp2_with fail
  generalize hW1 : (W.alloc (Obj.cells #[.int .i64 k, .int .i64 st, .slice ab nb cb, .slice ap np cp] 30)) = W1 at HO ⊢
  obtain ⟨bx, hbx⟩ : ∃ bx, W.heap.size = bx := ⟨_, rfl⟩
  rw [hbx] at HO ⊢
  obtain ⟨K1, hK1⟩ : ∃ K1 : Nat → Prop, K1 = (fun i => K i ∨ (bx ≤ i ∧ i < W1.heap.size)) := ⟨_, rfl⟩
  rw [← hK1] at HO
  clear hW1 hbx hK1
  obtain ⟨c0, c1, c2, c3, b0, b1, b2, b3⟩ := HO.out.c8
  refine (pick8_any k 6 W1 HKS.out.1 (by omega) (by omega)).mono ?_
  rintro e w' ⟨rfl, hw⟩
  subst w'
  obtain ⟨p, hp⟩ : ∃ p, pickD k 6 = p := ⟨_, rfl⟩
  have hp6 := pickD_lt k 6 (by omega)
  rw [hp] at hp6 ⊢
  clear hp
  have hcase : p = 3 ∨ p = 4 ∨ p = 5 ∨ p < 3 := by omega
  rcases hcase with rfl | rfl | rfl | hp3
  · have HOd := Lib.hid (HO.out.up DC.out JC.out (Below.drew (Below.refl _ _)))
    clear c0 c1 c2 c3 b0 b1 b2 b3
    go_wp2_with fail
    go_region_held3 (fun w' => w'.cell? ⟨g, 0, none⟩ = some (.pointer (some d)) ∧ w'.cell? ⟨g, 1, none⟩ = some (.pointer (some j)) ∧ w'.cell? ⟨g, 2, none⟩ = some (.pointer (some ⟨G.g0, 0, none⟩)) ∧ w'.cell? ⟨g, 3, none⟩ = some (.pointer (some ⟨Kb, 0, none⟩)) ∧ w'.cell? ⟨bx, 0, none⟩ = some (.int .i64 k) ∧ w'.cell? ⟨bx, 1, none⟩ = some (.int .i64 st) ∧ w'.cell? ⟨bx, 2, none⟩ = some (.slice ab nb cb) ∧ w'.cell? ⟨bx, 3, none⟩ = some (.slice ap np cp))
      (first | exact HOd.out.c8 | exact HO1.out.c8)
      ((go_at_call 26; with_reducible refine (JH.start JC.out HOd.out.pj.jh HOd.out.pj.lt ab nb cb bs st HKS.out.2 (HB.out.upB HOd.out.pj.jh.below) (Mine2.old HB.out) HB2.out.1 hcb HB2.out.2).mono ?_; rintro e w1 ⟨s1, r1, rfl, hj1, hl1, hor⟩; have HO1 := Lib.hid (HOd.out.left hj1 hl1); have HOR := Lib.hid hor; clear hj1 hl1 hor))
    have HO2 := Lib.hid (HO1.out.up DC.out JC.out (Below.drew (Below.refl _ _)))
    clear HOd HO
    go_wp2_with fail
    go_region_held3 (fun w' => w'.cell? ⟨g, 0, none⟩ = some (.pointer (some d)) ∧ w'.cell? ⟨g, 1, none⟩ = some (.pointer (some j)) ∧ w'.cell? ⟨g, 2, none⟩ = some (.pointer (some ⟨G.g0, 0, none⟩)) ∧ w'.cell? ⟨g, 3, none⟩ = some (.pointer (some ⟨Kb, 0, none⟩)) ∧ w'.cell? ⟨bx, 0, none⟩ = some (.int .i64 k) ∧ w'.cell? ⟨bx, 1, none⟩ = some (.int .i64 st) ∧ w'.cell? ⟨bx, 2, none⟩ = some (.slice ab nb cb) ∧ w'.cell? ⟨bx, 3, none⟩ = some (.slice ap np cp))
      (first | exact HO2.out.c8 | exact HO3.out.c8)
      ((go_at_call 30; with_reducible refine (refMay8_any n s HO2.out.pj.md HO2.out.pj.kt HF1.out ab nb cb bs HBL.out (Nat.le_trans hcb HB2.out.2)).mono ?_; rintro e w2 ⟨rfl, q2, rfl⟩; have HO3 := Lib.hid (HO2.out.up DC.out JC.out (below_drewN (Below.refl _ _) q2))))
    rw [show w1.drew.drewN q2 = w1.drewN (1 + q2) by first | rfl | exact World.drewN_drewN _ _ _] at HO3
    obtain ⟨W2, hW2⟩ : ∃ W2, W2 = w1.drewN (1 + q2) := ⟨_, rfl⟩
    rw [← hW2] at HO3 ⊢
    clear hW2 HO2 HO1
    obtain ⟨c0, c1, c2, c3, b0, b1, b2, b3⟩ := HO3.out.c8
    obtain ⟨m, hm⟩ : ∃ m, mayN n r bs = m := ⟨_, rfl⟩
    have hm8 := may_le n r bs
    rw [hm] at hm8 ⊢
    have HSN : Hid (startN n r bs st = if m = 0 then (if st < 1 ∨ 3 < st then 1 else 0) else m) := by show _ = _; unfold startN; rw [hm]
    have HMN := Lib.hid hm
    clear hm
    by_cases hm0 : m = 0
    · subst hm0
      by_cases hs13 : 1 ≤ st ∧ st ≤ 3
      · obtain ⟨hs1, hs3⟩ := hs13
        have HS0 : Hid (startN n r bs st = 0) := by show _ = _; rw [HSN.out, if_pos rfl, if_neg (by omega)]
        have HOd := Lib.hid (HO3.out.up DC.out JC.out (Below.drew (Below.refl _ _)))
        go_wp2_with fail
        go_region_held3 (fun w' => w'.cell? ⟨g, 0, none⟩ = some (.pointer (some d)) ∧ w'.cell? ⟨g, 1, none⟩ = some (.pointer (some j)) ∧ w'.cell? ⟨g, 2, none⟩ = some (.pointer (some ⟨G.g0, 0, none⟩)) ∧ w'.cell? ⟨g, 3, none⟩ = some (.pointer (some ⟨Kb, 0, none⟩)) ∧ w'.cell? ⟨bx, 0, none⟩ = some (.int .i64 k) ∧ w'.cell? ⟨bx, 1, none⟩ = some (.int .i64 st) ∧ w'.cell? ⟨bx, 2, none⟩ = some (.slice ab nb cb) ∧ w'.cell? ⟨bx, 3, none⟩ = some (.slice ap np cp))
          (first | exact HOd.out.c8 | exact HO4.out.c8)
          ((go_at_call 31; with_reducible refine (refStages_any HOd.out.pj.md HOd.out.pj.kt HOd.out.pj.gz ab nb cb bs (HB.out.upB HOd.out.pj.jh.below) (far2_old HB.out (fun i hi => HOd.out.pj.jh.kp i (HOd.out.pj.kg i hi)) (fun i hi => HOd.out.pj.jh.kp i (HOd.out.pj.kz i hi))) hcb HB2.out.2 HMN.out HRL1.out st (by omega)).mono ?_; rintro e w3 ⟨rfl, Z', v', vs', hm3, hk3, ho3, hz3⟩; have HO4 := Lib.hid (HOd.out.right DC.out JC.out ho3 hm3 hk3 hz3); clear hm3 hk3 ho3 hz3))
        rcases HOR.out with ⟨-, e1, e2⟩ | ⟨e0, -, -⟩
        rotate_left
        · exact absurd HS0.out e0
        rw [HS0.out]
        go_wp2_with fail
        refine (code_any 0 (by omega) _).mono ?_
        rintro e w4 ⟨rfl, hw⟩
        subst w4
        go_wp2_with fail
        go_ret
        have hpj := HO4.out.pj
        rw [e1, e2] at hpj
        exact ⟨by first | rfl | simp, j, _, _, Kb, _, _, _, _, hpj, HI.out.stg HMN.out HB2.out.1 st⟩
      · have HS1 : Hid (startN n r bs st = 1) := by show _ = _; rw [HSN.out, if_pos rfl, if_pos (by omega)]
        rcases HOR.out with ⟨e0, -, -⟩ | ⟨-, e1, e2⟩
        · rw [HS1.out] at e0; cases e0
        rw [HS1.out]
        subst e1 e2
        have hcs : st < 1 ∨ (1 ≤ st ∧ 3 < st) := by omega
        rcases hcs with hs1 | ⟨hs1, hs3⟩
        all_goals
          go_wp2_with fail
          refine (code_any 1 (by omega) _).mono ?_
          rintro e w4 ⟨rfl, hw⟩
          subst w4
          go_wp2_with fail
          go_ret
          exact ⟨by first | rfl | simp, j, _, _, Kb, _, _, _, _, HO3.out.pj, HI.out.le (by omega)⟩
    · have HS1 : Hid (startN n r bs st = m) := by show _ = _; rw [HSN.out, if_neg hm0]
      rcases HOR.out with ⟨e0, -, -⟩ | ⟨-, e1, e2⟩
      · rw [HS1.out] at e0; exact absurd e0 hm0
      rw [HS1.out]
      subst e1 e2
      have t1 : ((m : Int) == 0) = false := by simp; omega
      have t2 : ¬ (m : Int) = 0 := by omega
      go_wp2_with fail
      refine (code_any m hm8 _).mono ?_
      rintro e w4 ⟨rfl, hw⟩
      subst w4
      go_wp2_with fail
      go_ret
      exact ⟨by first | rfl | simp, j, _, _, Kb, _, _, _, _, HO3.out.pj, HI.out.le (by omega)⟩
  · go_wp2_with fail
    refine (opened8_any DC JC _ _ HO.out.pj.pd HI.out.1).mono ?_
    rintro e w1 ⟨rfl, j', Kb', Z', v', vs', K', hp1⟩
    have HP1 := Lib.hid hp1
    have HLN := HO.out.pj.md.ok.2.2.1
    have HIN := Lib.hid ((Inv.open' HI.out.1 HLN).le (show 64 * n ≤ c + 1 by omega))
    clear hp1
    go_wp2_with fail
    go_ret
    exact ⟨rfl, _, _, _, _, _, _, _, _, HP1.out, HIN.out⟩
  · have HOd := Lib.hid (HO.out.up DC.out JC.out (Below.drew (Below.refl _ _)))
    have HE : Hid (∀ W', Below w.heap.size w W' → Elems W' ap np ps) := fun W' hb => by
      have hp := HP.out
      refine ⟨hp.1, hp.2.1, ?_⟩
      rcases hp.2.2 with h0 | ⟨b, off, e, hcc⟩
      · exact Or.inl h0
      · by_cases h0 : np = 0
        · exact Or.inl h0
        · exact Or.inr ⟨b, off, e, fun i hi => by rw [hb.cell (p := ⟨b, off + i, none⟩) (cell_lt (hcc i hi))]; exact hcc i hi⟩
    have HMI : Hid (∀ K2, Mine2 K2 w ap np) := fun K2 x hx => by
      rcases HP.out.2.2 with h0 | ⟨b, off, e, hcc⟩
      · exact Or.inl h0
      · by_cases h0 : np = 0
        · exact Or.inl h0
        · rw [hx] at e
          cases e
          have := cell_lt (hcc 0 (by omega))
          exact Or.inr (Or.inr this)
    have HMO : Hid (∀ x, ap = some x → np = 0 ∨ x.block < w.heap.size) := fun x hx => (HMI.out (fun _ => False) x hx).imp id fun h => h.elim (fun h => h.elim) id
    clear c0 c1 c2 c3 b0 b1 b2 b3
    go_wp2_with fail
    go_region_held3 (fun w' => w'.cell? ⟨g, 0, none⟩ = some (.pointer (some d)) ∧ w'.cell? ⟨g, 1, none⟩ = some (.pointer (some j)) ∧ w'.cell? ⟨g, 2, none⟩ = some (.pointer (some ⟨G.g0, 0, none⟩)) ∧ w'.cell? ⟨g, 3, none⟩ = some (.pointer (some ⟨Kb, 0, none⟩)) ∧ w'.cell? ⟨bx, 0, none⟩ = some (.int .i64 k) ∧ w'.cell? ⟨bx, 1, none⟩ = some (.int .i64 st) ∧ w'.cell? ⟨bx, 2, none⟩ = some (.slice ab nb cb) ∧ w'.cell? ⟨bx, 3, none⟩ = some (.slice ap np cp))
      (first | exact HOd.out.c8 | (obtain ⟨p0, p1, p2, p3⟩ := pair_cells HPD.out.row; exact ⟨p0, p1, p2, p3, HBX.out.cell (j := 0) (by simp), HBX.out.cell (j := 1) (by simp), HBX.out.cell (j := 2) (by simp), HBX.out.cell (j := 3) (by simp)⟩))
      ((go_at_call 27; with_reducible refine (DH.crash DC.out HOd.out.pj.jh.disk HOd.out.pj.lt ap np cp ps (HE.out _ HOd.out.pj.jh.below) (HMI.out _) hcp hnp).mono ?_; rintro e w1 ⟨rfl, hd1, hl1⟩; have HPD := Lib.hid (HOd.out.pj.pd.left hd1 hl1); have HBX := Lib.hid (row_lets HOd.out.box hl1 HOd.out.kb); clear hd1 hl1))
    have HGB : Hid (¬ G.all bx) := HOd.out.gb
    have hdr : Below w1.heap.size w1 w1.drew := Below.drew (Below.refl _ _)
    have HPE : Hid (PD D n d (s.crash ps) s G g (some j) (some ⟨Kb, 0, none⟩) K1 w w1.drew) := ⟨HPD.out.dh.up DC.out hdr, HPD.out.md.up hdr, HPD.out.row.up hdr, HPD.out.kg, HPD.out.kp, HPD.out.gg, fun i hi => Nat.lt_of_lt_of_le (HPD.out.lt i hi) hdr.size⟩
    have HBY := Lib.hid (HBX.out.up hdr)
    clear hdr HOd HO HPD HBX
    go_wp2_with fail
    go_region_held3 (fun w' => w'.cell? ⟨g, 0, none⟩ = some (.pointer (some d)) ∧ w'.cell? ⟨g, 1, none⟩ = some (.pointer (some j)) ∧ w'.cell? ⟨g, 2, none⟩ = some (.pointer (some ⟨G.g0, 0, none⟩)) ∧ w'.cell? ⟨g, 3, none⟩ = some (.pointer (some ⟨Kb, 0, none⟩)) ∧ w'.cell? ⟨bx, 0, none⟩ = some (.int .i64 k) ∧ w'.cell? ⟨bx, 1, none⟩ = some (.int .i64 st) ∧ w'.cell? ⟨bx, 2, none⟩ = some (.slice ab nb cb) ∧ w'.cell? ⟨bx, 3, none⟩ = some (.slice ap np cp))
      (first | (obtain ⟨p0, p1, p2, p3⟩ := pair_cells HPE.out.row; exact ⟨p0, p1, p2, p3, HBY.out.cell (j := 0) (by simp), HBY.out.cell (j := 1) (by simp), HBY.out.cell (j := 2) (by simp), HBY.out.cell (j := 3) (by simp)⟩) | (obtain ⟨p0, p1, p2, p3⟩ := pair_cells HPF.out.row; exact ⟨p0, p1, p2, p3, HBZ.out.cell (j := 0) (by simp), HBZ.out.cell (j := 1) (by simp), HBZ.out.cell (j := 2) (by simp), HBZ.out.cell (j := 3) (by simp)⟩))
      ((go_at_call 33; with_reducible refine (refCrash_any n G s ap np cp ps _ HPE.out.md (HE.out _ HPE.out.dh.below) (far_model HMO.out fun i hi => HPE.out.dh.kp i (HPE.out.kg i hi)) hcp (by omega)).mono ?_; rintro e w2 ⟨rfl, hm2, ho2⟩; have HPF := Lib.hid (HPE.out.right DC.out ho2 hm2); have HBZ := Lib.hid (HBY.out.only ho2 HGB.out); clear hm2 ho2))
    have HSB : Hid (s.crash ps).byt := Dsk.byt_crash HI.out.1 ps
    have HLN := HPF.out.md.ok.2.2.1
    have HIN := Lib.hid ((Inv.open' HSB.out HLN).le (show 64 * n ≤ c + 1 by omega))
    clear HLN HPE HBY HBZ
    go_wp2_with fail
    refine (opened8_any DC JC _ _ HPF.out HSB.out).mono ?_
    rintro e w3 ⟨rfl, j', Kb', Z', v', vs', K', hp1⟩
    have HP1 := Lib.hid hp1
    clear hp1
    go_wp2_with fail
    go_ret
    exact ⟨rfl, _, _, _, _, _, _, _, _, HP1.out, HIN.out⟩
  · have tp3 : ¬ p = 3 := by omega
    have tp4 : ¬ p = 4 := by omega
    have tp5 : ¬ p = 5 := by omega
    have u3 : ((p : Int) == 3) = false := by simp; omega
    have u4 : ((p : Int) == 4) = false := by simp; omega
    have u5 : ((p : Int) == 5) = false := by simp; omega
    have HOd := Lib.hid (HO.out.up DC.out JC.out (Below.drew (Below.refl _ _)))
    clear c0 c1 c2 c3 b0 b1 b2 b3
    go_wp2_with fail
    go_region_held3 (fun w' => w'.cell? ⟨g, 0, none⟩ = some (.pointer (some d)) ∧ w'.cell? ⟨g, 1, none⟩ = some (.pointer (some j)) ∧ w'.cell? ⟨g, 2, none⟩ = some (.pointer (some ⟨G.g0, 0, none⟩)) ∧ w'.cell? ⟨g, 3, none⟩ = some (.pointer (some ⟨Kb, 0, none⟩)) ∧ w'.cell? ⟨bx, 0, none⟩ = some (.int .i64 k) ∧ w'.cell? ⟨bx, 1, none⟩ = some (.int .i64 st) ∧ w'.cell? ⟨bx, 2, none⟩ = some (.slice ab nb cb) ∧ w'.cell? ⟨bx, 3, none⟩ = some (.slice ap np cp))
      (first | exact HOd.out.c8 | exact HO1.out.c8)
      ((go_at_call 25; with_reducible refine (JH.append JC.out HOd.out.pj.jh HOd.out.pj.lt ab nb cb bs (HB.out.upB HOd.out.pj.jh.below) (Mine2.old HB.out) HB2.out.1 hcb HB2.out.2).mono ?_; rintro e w1 ⟨s1, r1, rfl, hj1, hl1, hor⟩; have HO1 := Lib.hid (HOd.out.left hj1 hl1); have HOR := Lib.hid hor; clear hj1 hl1 hor))
    have HO2 := Lib.hid (HO1.out.up DC.out JC.out (Below.drew (Below.refl _ _)))
    clear HOd HO
    go_wp2_with fail
    go_region_held3 (fun w' => w'.cell? ⟨g, 0, none⟩ = some (.pointer (some d)) ∧ w'.cell? ⟨g, 1, none⟩ = some (.pointer (some j)) ∧ w'.cell? ⟨g, 2, none⟩ = some (.pointer (some ⟨G.g0, 0, none⟩)) ∧ w'.cell? ⟨g, 3, none⟩ = some (.pointer (some ⟨Kb, 0, none⟩)) ∧ w'.cell? ⟨bx, 0, none⟩ = some (.int .i64 k) ∧ w'.cell? ⟨bx, 1, none⟩ = some (.int .i64 st) ∧ w'.cell? ⟨bx, 2, none⟩ = some (.slice ab nb cb) ∧ w'.cell? ⟨bx, 3, none⟩ = some (.slice ap np cp))
      (first | exact HO2.out.c8 | exact HO3.out.c8)
      ((go_at_call 30; with_reducible refine (refMay8_any n s HO2.out.pj.md HO2.out.pj.kt HF1.out ab nb cb bs HBL.out (Nat.le_trans hcb HB2.out.2)).mono ?_; rintro e w2 ⟨rfl, q2, rfl⟩; have HO3 := Lib.hid (HO2.out.up DC.out JC.out (below_drewN (Below.refl _ _) q2))))
    rw [show w1.drew.drewN q2 = w1.drewN (1 + q2) by first | rfl | exact World.drewN_drewN _ _ _] at HO3
    obtain ⟨W2, hW2⟩ : ∃ W2, W2 = w1.drewN (1 + q2) := ⟨_, rfl⟩
    rw [← hW2] at HO3 ⊢
    clear hW2 HO2 HO1
    obtain ⟨m, hm⟩ : ∃ m, mayN n r bs = m := ⟨_, rfl⟩
    have hm8 := may_le n r bs
    rw [hm] at hm8 HOR ⊢
    have HMN := Lib.hid hm
    clear hm
    by_cases hm0 : m = 0
    · subst hm0
      have HOd := Lib.hid (HO3.out.up DC.out JC.out (Below.drew (Below.refl _ _)))
      go_wp2_with fail
      go_region_held3 (fun w' => w'.cell? ⟨g, 0, none⟩ = some (.pointer (some d)) ∧ w'.cell? ⟨g, 1, none⟩ = some (.pointer (some j)) ∧ w'.cell? ⟨g, 2, none⟩ = some (.pointer (some ⟨G.g0, 0, none⟩)) ∧ w'.cell? ⟨g, 3, none⟩ = some (.pointer (some ⟨Kb, 0, none⟩)) ∧ w'.cell? ⟨bx, 0, none⟩ = some (.int .i64 k) ∧ w'.cell? ⟨bx, 1, none⟩ = some (.int .i64 st) ∧ w'.cell? ⟨bx, 2, none⟩ = some (.slice ab nb cb) ∧ w'.cell? ⟨bx, 3, none⟩ = some (.slice ap np cp))
        (first | exact HOd.out.c8 | exact HO4.out.c8)
        ((go_at_call 31; with_reducible refine (refStages_any HOd.out.pj.md HOd.out.pj.kt HOd.out.pj.gz ab nb cb bs (HB.out.upB HOd.out.pj.jh.below) (far2_old HB.out (fun i hi => HOd.out.pj.jh.kp i (HOd.out.pj.kg i hi)) (fun i hi => HOd.out.pj.jh.kp i (HOd.out.pj.kz i hi))) hcb HB2.out.2 HMN.out HRL1.out 4 (by omega)).mono ?_; rintro e w3 ⟨rfl, Z', v', vs', hm3, hk3, ho3, hz3⟩; have HO4 := Lib.hid (HOd.out.right DC.out JC.out ho3 hm3 hk3 hz3); clear hm3 hk3 ho3 hz3))
      rcases HOR.out with ⟨-, e1, e2⟩ | ⟨e0, -, -⟩
      rotate_left
      · exact absurd rfl e0
      go_wp2_with fail
      refine (code_any 0 (by omega) _).mono ?_
      rintro e w4 ⟨rfl, hw⟩
      subst w4
      go_wp2_with fail
      go_ret
      have hpj := HO4.out.pj
      rw [e1, e2] at hpj
      exact ⟨by first | rfl | simp, j, _, _, Kb, _, _, _, _, hpj, HI.out.stg HMN.out HB2.out.1 4⟩
    · rcases HOR.out with ⟨e0, -, -⟩ | ⟨-, e1, e2⟩
      · exact absurd e0 hm0
      subst e1 e2
      have t1 : ((m : Int) == 0) = false := by simp; omega
      have t2 : ¬ (m : Int) = 0 := by omega
      go_wp2_with fail
      refine (code_any m hm8 _).mono ?_
      rintro e w4 ⟨rfl, hw⟩
      subst w4
      go_wp2_with fail
      go_ret
      exact ⟨by first | rfl | simp, j, _, _, Kb, _, _, _, _, HO3.out.pj, HI.out.le (by omega)⟩
end
end Go.Proofs.Ytehfbafocbcfnaa
