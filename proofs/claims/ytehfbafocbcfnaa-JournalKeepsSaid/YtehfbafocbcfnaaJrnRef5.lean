/- The document's answer of layer 8: a disk is opened. -/
import Derived.Test.YtehfbafocbcfnaaJrnRef4
namespace Go.Proofs.Ytehfbafocbcfnaa
open Go Go.RowKit
set_option linter.unusedVariables false

theorem build_jrn (a b : Option Addr) (n c : Nat) (e : Int) (w : World) : (Instr.build 56 #[(0, .pointer a), (1, .slice b n c), (2, .int .i64 e)]).run Try.prog w = .ok (.agg #[.pointer a, .slice b n c, .int .i64 e, .bool false]) w := run_build w 56 _ _ (by kernel_rfl)

/-- no 0 among those of a piece -/
def oddT (bs : List Nat) (p j : Nat) : Bool := ((bs.take j).drop p).any (· != 0)
theorem oddT_start (bs : List Nat) (p : Nat) : oddT bs p p = false := by
  unfold oddT; rw [List.drop_eq_nil_of_le (by rw [List.length_take]; omega)]; rfl
theorem oddT_step (bs : List Nat) (p j : Nat) (hp : p ≤ j) (hj : j < bs.length) : oddT bs p (j + 1) = (oddT bs p j || bs.getD j 0 != 0) := by
  unfold oddT
  rw [take_snoc bs j hj, List.drop_append_of_le_length (by rw [List.length_take]; omega), List.any_append]
  simp
theorem oddT_all (bs : List Nat) (p : Nat) : oddT bs p bs.length = oddN bs p := by
  unfold oddT oddN; rw [List.take_length]

section
variable {G : Lies} {w : World} {n : Nat} {s : Dsk}

/-- what is held while a disk is opened -/
structure Opn (n : Nat) (G : Lies) (s : Dsk) (a : Option Addr) (c : Nat) (rs : List (List Nat)) (w W : World) : Prop where
  md : MAt n G s W
  rs : OwnRecs w.heap.size (.slice a rs.length c) rs W
  only : Only G.all w W
theorem Opn.turn {a : Option Addr} {c : Nat} {rs : List (List Nat)} {W W' : World} {s' : Dsk} (h : Opn n G s a c rs w W) (hlt : ∀ k, G.all k → k < w.heap.size) (hm : MAt n G s' W') (ho : Only G.all W W') : Opn n G s' a c rs w W' := by
  obtain ⟨vs, h1, h2⟩ := h.rs
  exact ⟨hm, ⟨vs, ownsRow_only h1 ho fun g hg hx => by have := (h1.lt g hg).1; have := hlt g hx; omega, fun j hj => ⟨ownsRow_only (h2 j hj).1 ho fun g hg hx => by have := ((h2 j hj).1.lt g hg).1; have := hlt g hx; omega, (h2 j hj).2⟩⟩, h.only.trans ho⟩
theorem Opn.up {a : Option Addr} {c : Nat} {rs : List (List Nat)} {W W' : World} (h : Opn n G s a c rs w W) (hb : Below W.heap.size W W') : Opn n G s a c rs w W' :=
  ⟨h.md.up hb, h.rs.up hb, h.only.trans (Only.of_below hb)⟩
theorem Opn.fin {a : Option Addr} {c : Nat} {rs : List (List Nat)} {W : World} (h : Opn n G s a c rs w W) (p : Nat) (u : Value) (hu : u = .int .i64 (p : Int)) : ∃ K Z v vs, K = W.heap.size ∧ MAt n G s (W.alloc (Obj.cells #[.pointer (some ⟨G.g0, 0, none⟩), .slice a rs.length c, u, .bool false] 56)) ∧
    KAt G K Z ⟨rs, p, false⟩ v vs (W.alloc (Obj.cells #[.pointer (some ⟨G.g0, 0, none⟩), .slice a rs.length c, u, .bool false] 56)) ∧
    Only G.all w (W.alloc (Obj.cells #[.pointer (some ⟨G.g0, 0, none⟩), .slice a rs.length c, u, .bool false] 56)) ∧ ∀ i, Z i → w.heap.size ≤ i := by
  subst hu
  obtain ⟨vs, h1, h2⟩ := h.rs
  have hb : Below W.heap.size W (W.alloc (Obj.cells #[.pointer (some ⟨G.g0, 0, none⟩), .slice a rs.length c, .int .i64 (p : Int), .bool false] 56)) := (Below.refl _ _).alloc (Nat.le_refl _) _
  have hz : W.heap.size ≤ W.heap.size ∧ W.heap.size < (W.alloc (Obj.cells #[.pointer (some ⟨G.g0, 0, none⟩), .slice a rs.length c, .int .i64 (p : Int), .bool false] 56)).heap.size := ⟨Nat.le_refl _, by simp⟩
  have hs := h.only.size
  have hsz : (W.alloc (Obj.cells #[.pointer (some ⟨G.g0, 0, none⟩), .slice a rs.length c, .int .i64 (p : Int), .bool false] 56)).heap.size = W.heap.size + 1 := World.size_alloc ..
  refine ⟨W.heap.size, fun k => w.heap.size ≤ k ∧ k ≤ W.heap.size, .slice a rs.length c, vs, rfl, h.md.up hb, ⟨Row.new W _ _, ownsRow_monoB (ownsRow_upB h1 hb) (Nat.zero_le _), fun j hj => ⟨ownsRow_monoB (ownsRow_upB (h2 j hj).1 hb) (Nat.zero_le _), (h2 j hj).2⟩, fun g hg => ?_, fun j hj g hg => ?_, ⟨hs, Nat.le_refl _⟩, fun k hk => ?_⟩, h.only.trans (Only.of_below hb), fun i hi => hi.1⟩
  · have := h1.lt g hg; exact ⟨⟨this.1, by omega⟩, by omega⟩
  · have := (h2 j hj).1.lt g hg; exact ⟨⟨this.1, by omega⟩, by omega⟩
  · omega

def OpenTo (n : Nat) (G : Lies) (s : Dsk) (w : World) (e : Ending) (w' : World) : Prop := ∃ K Z v vs, e = .returned (.pointer (some ⟨K, 0, none⟩)) ∧ MAt n G (openS s) w' ∧ KAt G K Z (openR s) v vs w' ∧
      Only G.all w w' ∧ (∀ i, Z i → w.heap.size ≤ i)

set_option maxRecDepth 100000 in
set_option maxHeartbeats 16000000 in
theorem refOpen8_any (hM : MAt n G s w) (hby : ∀ x ∈ s.nw, x < 256) :
    Calls Try.prog 21 #[.pointer (some ⟨G.g0, 0, none⟩)] w (OpenTo n G s w) := by
  obtain ⟨m0, m1, m2⟩ := hM.cells
  have hn := hM.ok.2.2.2
  have hlen := hM.ok.2.2.1
  have hp := endOf_le s.nw
  rw [hlen] at hp
  have HM := Lib.hid hM
  have HL := Lib.hid hlen
  have HBY := Lib.hid hby
  have rb := build_jrn
  clear hM hlen hby m0 m2
  go_enter Try.func21, Try.ntmps21
  go_wp2_with fail
  refine (refScan_any (some ⟨G.g2, 0, none⟩) (64 * n) (64 * n) s.nw _ ⟨by simpa using HL.out, Or.inr ⟨_, 0, rfl, fun j hj => by rw [Nat.zero_add, HM.out.r2.byte (by rw [HL.out]; exact hj)]; simp [List.getD, b8, show j < s.nw.length by rw [HL.out]; exact hj]⟩⟩ HBY.out (by omega) (Nat.le_refl _)).mono ?_
  rintro e w1 ⟨hb1, v, rfl, ho1⟩
  obtain ⟨va, vc, rfl, -⟩ := ho1.rows
  obtain ⟨p, hpp⟩ : ∃ p, endOf s.nw = p := ⟨_, rfl⟩
  rw [hpp] at hp ⊢
  have HP := Lib.hid hpp
  have H1 : Hid (Opn n G s va vc (recsOf s.nw) w w1) := ⟨HM.out.up hb1, ho1, Only.of_below hb1⟩
  have HLT : Hid (∀ k, G.all k → k < w.heap.size) := HM.out.lt
  clear hb1 ho1 hpp
  obtain ⟨-, m1, -⟩ := H1.out.md.cells
  go_wp2_with fail
  go_loopw [5, 6] (fun o i wr => ∃ (j : Nat), p ≤ j ∧ j ≤ 64 * n ∧ i = .int .i64 (j : Int) ∧ o = .bool (oddT s.nw p j) ∧ wr = w1) (fun _ i _ => 64 * n - (RowKit.intOf i).toNat)
  case atStart => exact ⟨p, by omega, by omega, rfl, by rw [oddT_start], rfl⟩
  case round =>
    obtain ⟨j, hpj, hj, rfl, rfl, rfl⟩ := hrel
    obtain ⟨o, ho⟩ : ∃ o, oddT s.nw p j = o := ⟨_, rfl⟩
    rw [ho]
    by_cases hlt : j < 64 * n
    · have hbyte := H1.out.md.r2.byte (j := j) (by rw [HL.out]; exact hlt)
      have hst := oddT_step s.nw p j hpj (by rw [HL.out]; exact hlt)
      obtain ⟨x, hx⟩ : ∃ x, s.nw.getD j 0 = x := ⟨_, rfl⟩
      rw [hx] at hbyte hst
      rw [ho] at hst
      have HST := Lib.hid hst
      have t6 : (j : Int) < 64 * (n : Int) := by omega
      have t7 : (0 : Int) ≤ (j : Int) := by omega
      have s9 : IntKind.i64.wrap ((j : Int) + 1) = (j : Int) + 1 := IntWalk.i64_in _ (by omega)
      clear hx hst ho
      have hx1 : ((x : Int) != 0) = (x != 0) := by
        by_cases h : x = 0
        · subst h; rfl
        · have h1 : (x != 0) = true := by simpa using h
          have h2 : ((x : Int) != 0) = true := by simp; omega
          rw [h1, h2]
      have HX1 := Lib.hid hx1
      clear hx1
      cases o
      · go_wp2_with fail
        exact ⟨⟨j + 1, by omega, by omega, by go_num, by rw [HST.out]; first | (rw [HX1.out]; rfl) | simp [HX1.out], trivial⟩, by simp [RowKit.intOf]; omega⟩
      · go_wp2_with fail
        exact ⟨⟨j + 1, by omega, by omega, by go_num, by rw [HST.out]; rfl, trivial⟩, by simp [RowKit.intOf]; omega⟩
    · obtain rfl : j = 64 * n := by omega
      have t6 : ¬ ((64 * n : Nat) : Int) < 64 * (n : Int) := by omega
      have hoo : oddN s.nw p = o := by rw [← ho, ← oddT_all, HL.out]
      have HOO := Lib.hid hoo
      have HR : Hid (openR s = ⟨recsOf s.nw, p, false⟩) := by show _ = _; unfold openR; rw [HP.out]
      clear ho hoo
      cases o
      · have HS : Hid (openS s = s) := by show _ = _; unfold openS; rw [HP.out, HOO.out, if_neg (by simp)]
        go_wp2_with fail
        go_ret
        obtain ⟨K, Z, v, vs, hK, q1, q2, q3, q4⟩ := H1.out.fin p _ rfl
        subst hK
        exact ⟨_, Z, v, vs, rfl, by rw [HS.out]; exact q1, by rw [HR.out]; exact q2, q3, q4⟩
      · have HS : Hid (openS s = (s.write p (List.replicate (64 * n - p) 0)).sync) := by show _ = _; unfold openS; rw [HP.out, HOO.out, if_pos rfl, HL.out]
        obtain ⟨N, hN⟩ : ∃ N, 64 * n - p = N := ⟨_, rfl⟩
        rw [hN] at HS
        have hNp : p + N = 64 * n := by omega
        have hm1 := run_make_row' (P := Try.prog) 27 5 (.int .u8 0) 1 Try.underlying27 info_u8 rfl .i64 .i64 N (by omega) (by omega)
        simp only [made_rep, List.toArray_replicate] at hm1
        have s2 : IntKind.i64.wrap (64 * (n : Int) - (p : Int)) = (N : Int) := by rw [IntWalk.i64_in _ (by omega)]; omega
        have hb2 : Below wr.heap.size wr (wr.alloc (Obj.cells (Array.replicate N (Value.int .u8 0)) 5)) := (Below.refl _ _).alloc (Nat.le_refl _) _
        have H2 := Lib.hid (H1.out.up hb2)
        have hc2 : Cells (wr.alloc (Obj.cells (Array.replicate N (Value.int .u8 0)) 5)) (some ⟨wr.heap.size, 0, none⟩) N ((List.replicate N 0).map b8) := by
          have h := Row.new wr (Array.replicate N (Value.int .u8 0)).toList 5
          simp only [Array.toArray_toList] at h
          refine ⟨by simp, Or.inr ⟨_, 0, rfl, fun j hj => ?_⟩⟩
          rw [Nat.zero_add, h.cell (by simpa using hj)]
          simp [List.getD, b8, hj]
        have HC2 := Lib.hid hc2
        have hsz1 := H1.out.only.size
        clear hN hb2 hc2
        go_wp2_with fail
        refine (refWrite7_any n G s p (some ⟨wr.heap.size, 0, none⟩) N N (List.replicate N 0) _ H2.out.md HC2.out (fun x hx => Or.inr fun hg => by cases hx; have := HLT.out _ hg; simp at this; omega) (Nat.le_refl _) (by omega)).mono ?_
        rintro e' w3 ⟨rfl, hm3, ho3⟩
        have H3 := Lib.hid (H2.out.turn HLT.out hm3 ho3)
        clear hm3 ho3
        go_wp2_with fail
        refine (refSync_any n G _ _ H3.out.md).mono ?_
        rintro e' w4 ⟨rfl, hm4, ho4⟩
        have H4 := Lib.hid (H3.out.turn HLT.out hm4 ho4)
        clear hm4 ho4
        go_wp2_with fail
        go_ret
        obtain ⟨K, Z, v, vs, hK, q1, q2, q3, q4⟩ := H4.out.fin p _ rfl
        subst hK
        exact ⟨_, Z, v, vs, rfl, by rw [HS.out]; exact q1, by rw [HR.out]; exact q2, q3, q4⟩
end
end Go.Proofs.Ytehfbafocbcfnaa
