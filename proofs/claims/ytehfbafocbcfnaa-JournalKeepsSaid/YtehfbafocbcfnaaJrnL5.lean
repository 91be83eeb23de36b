/- The walk of JournalKeeps: whatever a crash keeps, all that was appended is there, and, if anything more, the whole of what was being appended. -/
import Derived.Test.YtehfbafocbcfnaaJrnL2
namespace Go.Proofs.Ytehfbafocbcfnaa
open Go Go.RowKit
set_option linter.unusedVariables false

theorem start_may {n : Nat} {r : Jr} {b : List Nat} {p : Nat} (hp : p < 3) : startN n r b ((p : Int) + 1) = mayN n r b := by
  unfold startN
  split
  · rename_i h; rw [if_neg (by omega), h]
  · rfl
/-- what a start, and a crash behind it, leave -/
theorem keeps_start {n : Nat} {s : Dsk} {r : Jr} (h : Good n s r) {b : List Nat} (hb : ∀ x ∈ b, x < 256) {p : Nat} (hp : p < 3) {s' : Dsk} {r' : Jr}
    (hor : (startN n r b ((p : Int) + 1) = 0 ∧ s' = stgS s r b ((p : Int) + 1) ∧ r' = stgR r b ((p : Int) + 1)) ∨ (startN n r b ((p : Int) + 1) ≠ 0 ∧ s' = s ∧ r' = r)) (picks : List Int) :
    (s'.crash picks).byt ∧ Good n (openS (s'.crash picks)) (openR (s'.crash picks)) ∧ ((openR (s'.crash picks)).recs = r.recs ∨ (startN n r b ((p : Int) + 1) = 0 ∧ p = 2 ∧ (openR (s'.crash picks)).recs = r.recs ++ [b])) := by
  rcases hor with ⟨e0, rfl, rfl⟩ | ⟨e0, rfl, rfl⟩
  · have hm : mayN n r b = 0 := by rw [← start_may hp]; exact e0
    obtain ⟨q1, q2⟩ := h.torn hm hb ((p : Int) + 1) (by omega) picks
    exact ⟨Dsk.byt_crash (byt_stgS h.byt r hb _) picks, q1, q2.imp id fun ⟨h1, h2⟩ => ⟨e0, by omega, h2⟩⟩
  · rw [h.crash picks]
    exact ⟨h.byt, by rw [h.open'.1, h.open'.2]; exact h, Or.inl (by rw [h.open'.2])⟩

section
variable {D : Nat → (Nat → Prop) → Addr → Dsk → World → Prop} {J : Nat → (Nat → Prop) → Addr → Addr → Jr → World → Prop}

set_option maxRecDepth 100000 in
set_option maxHeartbeats 32000000 in
theorem journalKeeps_walk (DC : Hid (DiskC D)) (JC : Hid (JrnC D J)) (a : Option Addr) (len cap : Nat) (ls : List (List Nat)) (ab : Option Addr) (nb cb : Nat) (bs : List Nat) (stage : Int) (ap : Option Addr) (np cp : Nat) (ps : List Int) (am : Option Addr) (nm cm : Nat) (ms : List Nat) (w : World)
    (hl : RowsIn w a len ls) (hc : len ≤ cap) (hm : cap ≤ maxLen) (hb : Cells w ab nb (bs.map b8)) (hb256 : ∀ x ∈ bs, x < 256) (hcb : nb ≤ cb) (hmb : cb ≤ maxLen) (hs : i64d stage) (hp : Elems w ap np ps) (hcp : np ≤ cp) (hmp : cp ≤ maxLen)
    (hmo : Cells w am nm (ms.map b8)) (hm256 : ∀ x ∈ ms, x < 256) (hcm : nm ≤ cm) (hmm : cm ≤ maxLen) :
    Calls Try.prog 5 #[.slice a len cap, .slice ab nb cb, .int .i64 stage, .slice ap np cp, .slice am nm cm] w fun e w' => e = .returned (.bool true) ∧ Below w.heap.size w w' := by
  have HL := Lib.hid hl
  have HB := Lib.hid hb
  have HB2 := Lib.hid (And.intro hb256 hmb)
  have HMO := Lib.hid hmo
  have HMO2 := Lib.hid (And.intro hm256 hmm)
  have HPI := Lib.hid hp
  have HI := Lib.hid hs
  have HBL : Hid (bs.length = nb) := by have := hb.1; rw [List.length_map] at this; exact this
  have HML : Hid (ms.length = nm) := by have := hmo.1; rw [List.length_map] at this; exact this
  have hml : (len : Int) ≤ 9223372036854775807 := by unfold maxLen at hm; omega
  have hmp2 : (np : Int) ≤ 9223372036854775807 := by unfold maxLen at hmp; omega
  clear hl hb hb256 hmb hs hp hmo hm256 hmm hm hmp
  go_enter Try.func5, Try.ntmps5
  go_wp2_with fail
  refine (up08_any DC JC _).mono ?_
  rintro e w1 ⟨rfl, hb1⟩
  have HB1 := Lib.hid hb1
  clear hb1
  by_cases hbig : 20 < len ∨ (len ≤ 20 ∧ 2000 < np)
  · rcases hbig with h | ⟨h, h'⟩
    · have t1 : (20 : Int) < (len : Int) := by omega
      go_wp2_with fail
      go_ret
      exact ⟨rfl, HB1.out⟩
    · have t1 : (len : Int) ≤ 20 := by omega
      have t2 : (2000 : Int) < (np : Int) := by omega
      go_wp2_with fail
      go_ret
      exact ⟨rfl, HB1.out⟩
  have hlen : len ≤ 20 := by omega
  have hnp : np ≤ 2000 := by omega
  have t1 : (len : Int) ≤ 20 := by omega
  have t2 : (np : Int) ≤ 2000 := by omega
  clear hbig
  go_wp2_with fail
  refine (DC.out.new 64 _ (by unfold i64d; omega)).mono ?_
  rintro e w2 ⟨hb2, ⟨-, -, d, F1, rfl, hD1, hF1⟩ | ⟨h, -⟩⟩
  rotate_left
  · omega
  have H1 : Hid (DHold D 64 d (Dsk.zero 64) w w2) := ⟨⟨F1, hD1, fun k hk => Nat.le_trans HB1.out.size (hF1 k hk)⟩, HB1.out.trans (hb2.mono HB1.out.size)⟩
  clear hD1 hF1 hb2
  go_wp2_with fail
  refine (H1.out.open' JC.out (Dsk.byt_zero 64)).mono ?_
  rintro e w3 ⟨j, rfl, hj⟩
  rw [((good_zero 64).open').1, ((good_zero 64).open').2] at hj
  have H2 := Lib.hid hj.k
  clear hj H1
  go_wp2_with fail
  go_loopw [16, 17] (fun v i wr => ∃ (q : Nat) (s : Dsk) (r : Jr) (vs : List Value), q ≤ len ∧ i = .int .i64 (q : Int) ∧ r.recs.length ≤ q ∧ Hid (JH D J 64 d j s r (fun k => v.ownBlock = some k) w wr) ∧ Hid (Good 64 s r) ∧ Hid (MixRecs w.heap.size v vs r.recs wr) ∧ Hid (OldIn w vs r.recs)) (fun _ i _ => len - (RowKit.intOf i).toNat)
  case atStart => exact ⟨0, _, _, [], by omega, rfl, by simp, H2.out.own DC.out JC.out (Only.refl _ _) (fun k hk => by cases hk), good_zero 64, MixRecs.nil _ _, OldIn.nil _⟩
  case round =>
    obtain ⟨q, s, r, vs, hq, rfl, hrq, hJ, hG, hMx, hOld⟩ := hrel
    obtain ⟨va, vc, hv, hvc1, hvc2, hvn, hrows⟩ := hMx.out.rows
    subst hv
    have HROWS := Lib.hid hrows
    have HKL : Hid (∀ k, (Value.slice va r.recs.length vc).ownBlock = some k → k < wr.heap.size) := fun k hk => (hMx.out.1.lt k hk).2
    clear hrows
    by_cases hlt : q < len
    · obtain ⟨bb, oo, rfl, hcl⟩ := HL.out.2.2.resolve_left (by omega)
      obtain ⟨aj, cj, hcell, hbytes, hcj1, hcj2⟩ := hcl q hlt
      have hb256 := HL.out.2.1.at' q
      obtain ⟨x, hx⟩ : ∃ x, ls.getD q [] = x := ⟨_, rfl⟩
      rw [hx] at hcell hbytes hcj1 hb256
      obtain ⟨m, hxm⟩ : ∃ m, x.length = m := ⟨_, rfl⟩
      rw [hxm] at hcell hbytes hcj1
      have HXM := Lib.hid hxm
      have HBY := Lib.hid (And.intro hb256 hcj2)
      have HBC := Lib.hid hbytes
      have hcw : wr.cell? ⟨bb, oo + q, none⟩ = some (.slice aj m cj) := by rw [hJ.out.below.cell (p := ⟨bb, oo + q, none⟩) (cell_lt hcell)]; exact hcell
      have HCE := Lib.hid hcell
      have hmm : (m : Int) ≤ 9223372036854775807 := by have := HBY.out.2; unfold maxLen at this; omega
      have t6 : (q : Int) < (len : Int) := by omega
      have t7 : (0 : Int) ≤ (q : Int) := by omega
      have s9 : IntKind.i64.wrap ((q : Int) + 1) = (q : Int) + 1 := IntWalk.i64_in _ (by omega)
      clear hcl hx hxm hcell hbytes hb256 hcj2
      by_cases hm2 : m ≤ 1024
      · have t8 : (m : Int) ≤ 1024 := by omega
        go_wp2_with fail
        refine (hJ.out.append JC.out HKL.out aj m cj x (HBC.out.upB hJ.out.below) (Mine2.old HBC.out) HBY.out.1 hcj1 HBY.out.2).mono ?_
        rintro e w4 ⟨s', r', rfl, hJ4, hlets, hor⟩
        have hM4 := hMx.out.lets hlets (fun k hk => hk) (hOld.out.in' (fun k => (Value.slice va r.recs.length vc).ownBlock = some k))
        have HJ4 := Lib.hid hJ4
        have HM4 := Lib.hid hM4
        have hc4 : w4.cell? ⟨bb, oo + q, none⟩ = some (.slice aj m cj) := by rw [HJ4.out.below.cell (p := ⟨bb, oo + q, none⟩) (cell_lt HCE.out)]; exact HCE.out
        clear hJ4 hM4 hlets
        rcases hor with ⟨e0, rfl, rfl⟩ | ⟨e0, rfl, rfl⟩
        · rw [e0, show errv ((0 : Nat) : Int) = .nilIface from rfl]
          have HG2 := Lib.hid (hG.out.append e0 HBY.out.1)
          have M1 : Hid (r.recs.length + 1 ≤ maxLen) := by show r.recs.length + 1 ≤ maxLen; simp only [maxLen]; omega
          have M2 : Hid ((r.recs.length + 1) * 24 ≤ 140737488355328) := by show (r.recs.length + 1) * 24 ≤ 140737488355328; omega
          have hsz := HJ4.out.below.size
          have hal : Below w4.heap.size w4 (w4.alloc (Obj.cells #[.slice aj m cj] 27)) := (Below.refl _ _).alloc (Nat.le_refl _) _
          have HAL := Lib.hid hal
          have HR4 : Hid ((w4.alloc (Obj.cells #[.slice aj m cj] 27)).ownsRow w.heap.size 27 1 (.slice va r.recs.length vc) r.recs.length vs) := HM4.out.1.alloc _
          clear e0 hal
          go_wp2_with (at_builtin; refine wpList_append_cells rfl (.tmp 81) (.tmp 86) 53 rfl w.heap.size Tsb (.slice va r.recs.length vc) r.recs.length vs rfl HR4.out (some ⟨_, 0, none⟩) 1 1 [.slice aj m cj] rfl (fun h => by cases h) (one_new _ _ _) (one_sl _ _ _) M1.out M2.out (Nat.le_trans hsz (by simp)) ?_; intro v5 w5 o5 q5 r5 l5)
          have hM5 : MixRecs w.heap.size v5 (vs ++ [.slice aj m cj]) (r.recs ++ [x]) w5 := MixRecs.pushm HXM.out rfl (HM4.out.up HAL.out) ((HBC.out.upB HJ4.out.below).upB HAL.out) (fun y hy => (HM4.out.up HAL.out).old (w0 := w) (Nat.le_refl _) HBC.out y hy) o5 q5 l5
          have hJ5 : JH D J 64 d j (stgS s r x 4) (stgR r x 4) (fun k => v5.ownBlock = some k) w w5 := (HJ4.out.up DC.out JC.out HAL.out).own DC.out JC.out (only_grown8 q5) fun k hk => by
            rcases l5 with l5 | l5
            · exact Or.inl (by rw [← l5]; exact hk)
            · rw [l5] at hk; cases hk; exact Or.inr (Nat.le_refl _)
          exact ⟨⟨q + 1, _, _, _, by omega, by go_num, by show (r.recs ++ [x]).length ≤ q + 1; rw [List.length_append, List.length_singleton]; omega, hJ5, HG2.out, hM5, hOld.out.push HXM.out HBC.out⟩, by simp [RowKit.intOf]; omega⟩
        · obtain ⟨k, hk, hk0⟩ : ∃ k : Nat, mayN 64 r' x = k ∧ k ≠ 0 := ⟨_, rfl, e0⟩
          rw [hk]
          have qe := fun (w : World) (k : Int) => run_eql_errv_nil w k
          have qg := fun (t : TypeId) (x : Operand) (c : Value) (k : Int) => guard_eql_errv_nil t x c k
          have t9 : ((k : Int) == 0) = false := by simp; omega
          clear e0 hk
          go_wp2_with fail
          exact ⟨⟨q + 1, _, _, _, by omega, by go_num, by omega, HJ4.out, hG.out, HM4.out, hOld.out⟩, by simp [RowKit.intOf]; omega⟩
      · have t8 : ¬ (m : Int) ≤ 1024 := by omega
        go_wp2_with fail
        go_ret
        exact ⟨rfl, hJ.out.below⟩
    · have t6 : ¬ (q : Int) < (len : Int) := by omega
      obtain ⟨p, hp, hp3⟩ : ∃ p, pickD stage 3 = p ∧ p < 3 := ⟨_, rfl, pickD_lt stage 3 (by omega)⟩
      obtain ⟨W3, hW3⟩ : ∃ W3, W3 = wr := ⟨_, rfl⟩
      subst hW3
      go_wp2_with fail
      refine (pick8_any stage 3 W3 HI.out (by omega) (by omega)).mono ?_
      rintro e w' ⟨rfl, hw⟩
      subst w'
      rw [hp]
      have s1 : IntKind.i64.wrap (1 + (p : Int)) = (p : Int) + 1 := by rw [IntWalk.i64_in _ (by omega)]; omega
      clear hp
      go_wp2_with fail
      refine (hJ.out.start JC.out HKL.out ab nb cb bs ((p : Int) + 1) (by unfold i64d; omega) (HB.out.upB hJ.out.below) (Mine2.old HB.out) HB2.out.1 hcb HB2.out.2).mono ?_
      rintro e w4 ⟨s4, r4, rfl, hJ4, hlets, hor⟩
      obtain ⟨g1, g2, g3⟩ := keeps_start hG.out HB2.out.1 hp3 hor ps
      obtain ⟨k, hk⟩ : ∃ k : Nat, startN 64 r bs ((p : Int) + 1) = k := ⟨_, rfl⟩
      rw [hk] at g3 ⊢
      have G1 := Lib.hid g1
      have G2 := Lib.hid g2
      have G3 := Lib.hid g3
      have HM4 := Lib.hid (hMx.out.lets hlets (fun k hk => hk) (hOld.out.in' (fun k => (Value.slice va r.recs.length vc).ownBlock = some k)))
      have HJ4 := Lib.hid hJ4.disk
      have HE4 : Hid (Elems w4 ap np ps) := by
        have hp := HPI.out
        refine ⟨hp.1, hp.2.1, ?_⟩
        rcases hp.2.2 with h0 | ⟨b, off, e, hcc⟩
        · exact Or.inl h0
        · by_cases h0 : np = 0
          · exact Or.inl h0
          · exact Or.inr ⟨b, off, e, fun j hj => by rw [HJ4.out.below.cell (p := ⟨b, off + j, none⟩) (cell_lt (hcc j hj))]; exact hcc j hj⟩
      have HE4m : Hid (Mine2 (fun k => (Value.slice va r.recs.length vc).ownBlock = some k) w ap np) := fun x hx => by
        rcases HPI.out.2.2 with h0 | ⟨b, off, e, hcc⟩
        · exact Or.inl h0
        · by_cases h0 : np = 0
          · exact Or.inl h0
          · rw [hx] at e
            cases e
            have := cell_lt (hcc 0 (by omega))
            exact Or.inr (Or.inr this)
      have HK4 : Hid (∀ k, (Value.slice va r.recs.length vc).ownBlock = some k → k < w4.heap.size) := fun k hk => (HM4.out.1.lt k hk).2
      have HBR : Hid (Byts r.recs) := fun x hx => (hG.out.recs x hx).2.2
      clear hor g1 g2 g3 hk hlets hJ4 hJ hMx HROWS HKL hlt
      go_wp2_with fail
      refine (HJ4.out.crash DC.out HK4.out ap np cp ps HE4.out HE4m.out hcp hnp).mono ?_
      rintro e w5 ⟨rfl, hd5, hlets⟩
      have HM5 := Lib.hid (HM4.out.lets hlets (fun k hk => hk) (hOld.out.in' (fun k => (Value.slice va r.recs.length vc).ownBlock = some k)))
      have HD5 := Lib.hid hd5
      have HK5 : Hid (∀ k, (Value.slice va r.recs.length vc).ownBlock = some k → k < w5.heap.size) := fun k hk => (HM5.out.1.lt k hk).2
      obtain ⟨s5, hs5⟩ : ∃ s5, openS (s4.crash ps) = s5 := ⟨_, rfl⟩
      obtain ⟨r5, hr5⟩ : ∃ r5, openR (s4.crash ps) = r5 := ⟨_, rfl⟩
      have HS5 := Lib.hid (And.intro hs5 hr5)
      rw [hs5, hr5] at G2
      rw [hr5] at G3
      clear hd5 hlets hs5 hr5 HM4 HJ4 HE4 HE4m HK4 hG
      go_wp2_with fail
      refine (HD5.out.open' JC.out HK5.out G1.out).mono ?_
      rintro e w6 ⟨j6, rfl, hj6, hlets⟩
      rw [HS5.out.1, HS5.out.2] at hj6
      have HM6 := Lib.hid (HM5.out.lets hlets (fun k hk => hk) (hOld.out.in' (fun k => (Value.slice va r.recs.length vc).ownBlock = some k)))
      have HJ6 := Lib.hid hj6
      clear hj6 hlets HM5 HD5 HK5
      go_wp2_with fail
      refine (HJ6.out.records DC.out JC.out).mono ?_
      rintro e w7 ⟨v7, rfl, hown, hj7, hb7⟩
      obtain ⟨vr, hmr, hir, hvr⟩ := hown.mixK w
      have hM7 := HM6.out.up hb7
      obtain ⟨ra, rc, hv7, -, -, hrn, -⟩ := hmr.rows
      subst hv7
      obtain ⟨R, hR⟩ : ∃ R, r5.recs = R := ⟨_, rfl⟩
      have HRB : Hid (Byts R) := by rw [← hR]; exact fun x hx => (G2.out.recs x hx).2.2
      have HRL : Hid (R.length ≤ 21) := by
        rw [← hR]
        rcases G3.out with h | ⟨-, -, h⟩
        · show r5.recs.length ≤ 21; rw [h]; omega
        · show r5.recs.length ≤ 21; rw [h, List.length_append, List.length_singleton]; omega
      have HR := Lib.hid hR
      rw [hR] at hmr hir hvr G3 ⊢
      have HMR := Lib.hid hmr
      have HIR := Lib.hid hir
      have HVR := Lib.hid hvr
      have HM7 := Lib.hid hM7
      have HB7 := Lib.hid hb7
      have HOe : Hid ((w7.alloc (Obj.cells #[] 27)).ownsRow w7.heap.size 27 1 (.slice (some ⟨w7.heap.size, 0, none⟩) 0 0) 0 []) := World.ownsRow_lit (base := w7.heap.size) (e := 27) (size := 1) w7 #[] 0 (Nat.le_refl _) (by decide) rfl
      have HA7 : Hid (Below w7.heap.size w7 (w7.alloc (Obj.cells #[] 27))) := (Below.refl _ _).alloc (Nat.le_refl _) _
      have HCV : Hid (Cells (w7.alloc (Obj.cells #[] 27)) va r.recs.length vs) := (HM7.out.up HA7.out).cells
      have HONE := Lib.hid hM7.one
      have HNV := Lib.hid hvn
      have M1 : Hid (0 + r.recs.length ≤ maxLen) := by show 0 + r.recs.length ≤ maxLen; simp only [maxLen]; omega
      have M2 : Hid ((0 + r.recs.length) * 24 ≤ 140737488355328) := by show (0 + r.recs.length) * 24 ≤ 140737488355328; omega
      have M3 : Hid (r.recs.length + 1 ≤ maxLen) := by show r.recs.length + 1 ≤ maxLen; simp only [maxLen]; omega
      have M4 : Hid ((r.recs.length + 1) * 24 ≤ 140737488355328) := by show (r.recs.length + 1) * 24 ≤ 140737488355328; omega
      clear hown hmr hir hvr hM7 hb7 hR hj7
      go_wp2_with (first
        | (at_builtin; refine wpList_append_cells rfl (.tmp 111) (.tmp 112) 53 rfl w7.heap.size Tsb (.slice (some ⟨w7.heap.size, 0, none⟩) 0 0) 0 [] rfl HOe.out va r.recs.length vc vs rfl HNV.out HCV.out HONE.out M1.out M2.out (by simp) ?_; intro v8 w8 o8 q8 x8 l8; rw [Nat.zero_add, List.nil_append] at o8; have hs8 : w7.heap.size ≤ w8.heap.size := Nat.le_trans (by simp) q8.size; have O8 := Lib.hid (o8.alloc (Obj.cells #[.slice ab nb cb] 27)))
        | (at_builtin; refine wpList_append_cells rfl (.tmp 113) (.tmp 115) 53 rfl w7.heap.size Tsb v8 r.recs.length vs rfl O8.out (some ⟨_, 0, none⟩) 1 1 [.slice ab nb cb] rfl (fun h => by cases h) (one_new _ _ _) (one_sl _ _ _) M3.out M4.out (Nat.le_trans hs8 (by simp)) ?_; intro v9 w9 o9 q9 x9 l9; have HQ9 := Lib.hid (And.intro o9 (And.intro q9 l9)); clear o9 q9 x9 l9))
      have hb8 : Below w7.heap.size w7 w8 := HA7.out.grown q8 (by simp) (fun z hz => by cases hz; exact Nat.le_refl _)
      obtain ⟨o9, q9, l9⟩ := HQ9.out
      have hal8 : Below w8.heap.size w8 (w8.alloc (Obj.cells #[.slice ab nb cb] 27)) := (Below.refl _ _).alloc (Nat.le_refl _) _
      have hb9 : Below w7.heap.size w7 w9 := (hb8.alloc hs8 (Obj.cells #[.slice ab nb cb] 27)).grown q9 (Nat.le_trans hs8 (by simp)) (fun z hz => (o8.lt z hz).1)
      have hn7 : w.heap.size ≤ w7.heap.size := Nat.le_trans HJ6.out.below.size HB7.out.size
      have hMw8 : MixRecs w7.heap.size v8 vs r.recs w8 := HM7.out.copy o8 hb8
      have hBc : Cells w9 ab nb (bs.map b8) := (HB.out.upB HJ6.out.below).upB (HB7.out.trans (hb9.mono HB7.out.size))
      have hMw : MixRecs w7.heap.size v9 (vs ++ [.slice ab nb cb]) (r.recs ++ [bs]) w9 := MixRecs.pushm HBL.out rfl (hMw8.up hal8) (((((HB.out.upB HJ6.out.below).upB HB7.out).upB hb8)).upB hal8) (fun y hy => (hMw8.up hal8).old (w0 := w) hn7 HB.out y hy) o9 q9 l9
      obtain ⟨wa, wc, hv9, -, hwc, -, hwrows⟩ := hMw.rows
      subst hv9
      have HWR := Lib.hid hwrows
      have H9 : Hid (JH D J 64 d j6 s5 r5 (fun k => (Value.slice va r.recs.length vc).ownBlock = some k ∨ (w6.heap.size ≤ k ∧ k < w9.heap.size)) w w9) := HJ6.out.own DC.out JC.out (Only.of_below (HB7.out.trans (hb9.mono HB7.out.size))) fun k hk => hk.imp id (·.1)
      have HM9 := Lib.hid (HM7.out.up hb9)
      have HMR9 := Lib.hid (HMR.out.up hb9)
      have HK9 : Hid (∀ k, ((Value.slice va r.recs.length vc).ownBlock = some k ∨ (w6.heap.size ≤ k ∧ k < w9.heap.size)) → k < w9.heap.size) := fun k hk => hk.elim (fun h => (HM9.out.1.lt k h).2) (·.2)
      have HIK : Hid (InK (fun k => (Value.slice va r.recs.length vc).ownBlock = some k ∨ (w6.heap.size ≤ k ∧ k < w9.heap.size)) w vr R) := HIR.out.mono fun k hk => Or.inr ⟨hk.1, Nat.lt_of_lt_of_le hk.2 hb9.size⟩
      have HVK : Hid (∀ k, (Value.slice ra R.length rc).ownBlock = some k → (Value.slice va r.recs.length vc).ownBlock = some k ∨ (w6.heap.size ≤ k ∧ k < w9.heap.size)) := fun k hk => Or.inr ⟨(HVR.out k hk).1, Nat.lt_of_lt_of_le (HVR.out k hk).2 hb9.size⟩
      have hrows1 := HMR9.out.rows
      obtain ⟨ra', rc', he1, -, -, -, hrr⟩ := hrows1
      have HRR : Hid (RowsOf w9 ra R.length R) := by injection he1 with e1 _ _; rw [e1]; exact hrr
      obtain ⟨va', vc', he2, -, hvm, -, hvv⟩ := HM9.out.rows
      have HVV : Hid (RowsOf w9 va r.recs.length r.recs) := by injection he2 with e1 _ _; rw [e1]; exact hvv
      have HWB : Hid (Byts (r.recs ++ [bs])) := HBR.out.snoc HB2.out.1
      have hrl20 : r.recs.length ≤ 20 := by omega
      have HZ9 : Hid (w6.heap.size ≤ w9.heap.size) := Nat.le_trans HB7.out.size hb9.size
      have HW6 : Hid (w.heap.size ≤ w6.heap.size) := HJ6.out.below.size
      clear hb8 hal8 hb9 hMw8 hBc hMw hwrows he1 hrr he2 hvv hvm o8 q8 x8 l8 O8 hs8 o9 q9 l9 HQ9 HM7 HMR HIR HVR HOe HA7 HCV HONE HNV HJ6 HM6 M1 M2
      refine (refSame8_any ra va R.length rc r.recs.length vc R r.recs w9 HRR.out HVV.out HRB.out HBR.out (by have := HRL.out; omega) (by unfold maxLen; omega)).mono ?_
      rintro e w10 ⟨rfl, q10, rfl⟩
      have hcase : ∃ (W10 : World), True := ⟨w, trivial⟩
      have HAB : Hid ((R = r.recs) ∨ (R ≠ r.recs ∧ k = 0 ∧ p = 2 ∧ R = r.recs ++ [bs])) := by
        rcases G3.out with h | ⟨h1, h2, h3⟩
        · exact Or.inl h
        · refine Or.inr ⟨fun h => ?_, h1, h2, h3⟩
          have := congrArg List.length (h.symm.trans h3)
          rw [List.length_append, List.length_singleton] at this
          omega
      clear hcase
      rcases HAB.out with hA | ⟨hA, rfl, rfl, hB⟩
      · rw [show decide (R = r.recs) = true from decide_eq_true hA]
        have HBW : Hid (Below w9.heap.size w9 (w9.drewN q10)) := below_drewN (Below.refl _ _) q10
        obtain ⟨W10, hW10⟩ : ∃ W10, W10 = w9.drewN q10 := ⟨_, rfl⟩
        rw [← hW10] at HBW ⊢
        clear hA hW10
        go_wp2_with fail
        refine ((H9.out.up DC.out JC.out HBW.out).disk.crash DC.out (fun k hk => Nat.lt_of_lt_of_le (HK9.out k hk) HBW.out.size) none 0 0 [] ⟨rfl, by simp, Or.inl rfl⟩ (fun x hx => by cases hx) (Nat.le_refl _) (by omega)).mono ?_
        rintro e w11 ⟨rfl, hd11, hl11⟩
        rw [G2.out.crash []] at hd11
        have HMR11 := Lib.hid ((HMR9.out.up HBW.out).lets hl11 HVK.out HIK.out.2)
        have HD11 := Lib.hid hd11
        have HK11 : Hid (∀ k, (fun k => (Value.slice va r.recs.length vc).ownBlock = some k ∨ (w6.heap.size ≤ k ∧ k < w9.heap.size)) k → k < w11.heap.size) := fun k hk => Nat.lt_of_lt_of_le (Nat.lt_of_lt_of_le (HK9.out k hk) HBW.out.size) (by obtain ⟨X, h1, -⟩ := hl11; exact h1.size)
        have HZ11 : Hid (w6.heap.size ≤ w11.heap.size) := Nat.le_trans (Nat.le_trans HZ9.out HBW.out.size) (by obtain ⟨X, h1, -⟩ := hl11; exact h1.size)
        clear hd11 hl11 HMR9 H9 HK9 HM9
        go_wp2_with fail
        refine (HD11.out.open' JC.out HK11.out G2.out.byt).mono ?_
        rintro e w12 ⟨j12, rfl, hj12, hl12⟩
        rw [G2.out.open'.1, G2.out.open'.2] at hj12
        have HMR12 := Lib.hid (HMR11.out.lets hl12 HVK.out HIK.out.2)
        have HJ12 := Lib.hid hj12
        have HK12 : Hid (∀ k, (fun k => (Value.slice va r.recs.length vc).ownBlock = some k ∨ (w6.heap.size ≤ k ∧ k < w9.heap.size)) k → k < w12.heap.size) := fun k hk => Nat.lt_of_lt_of_le (HK11.out k hk) (by obtain ⟨X, h1, -⟩ := hl12; exact h1.size)
        have HZ12 : Hid (w6.heap.size ≤ w12.heap.size) := Nat.le_trans HZ11.out (by obtain ⟨X, h1, -⟩ := hl12; exact h1.size)
        clear hj12 hl12 HMR11 HD11 HK11
        go_wp2_with fail
        refine (HJ12.out.records DC.out JC.out).mono ?_
        rintro e w13 ⟨v13, rfl, hown, hj13, hb13⟩
        obtain ⟨xa, xc, rfl, -, -, hxr⟩ := hown.rows
        rw [HR.out] at hxr ⊢
        have HXR := Lib.hid hxr
        have HJ13 := Lib.hid hj13
        have HMR13 := Lib.hid (HMR12.out.up hb13)
        have HK13 : Hid (∀ k, (fun k => (Value.slice va r.recs.length vc).ownBlock = some k ∨ (w6.heap.size ≤ k ∧ k < w9.heap.size)) k → k < w13.heap.size) := fun k hk => Nat.lt_of_lt_of_le (HK12.out k hk) hb13.size
        obtain ⟨ra3, rc3, he3, -, -, -, hrr3⟩ := HMR13.out.rows
        have HRR13 : Hid (RowsOf w13 ra R.length R) := by injection he3 with e1 _ _; rw [e1]; exact hrr3
        have HZ13 : Hid (w6.heap.size ≤ w13.heap.size) := Nat.le_trans HZ12.out hb13.size
        clear hown hj13 hb13 hxr he3 hrr3 HMR12 HJ12 HK12
        go_wp2_with fail
        refine (refSame8_any xa ra R.length xc R.length rc R R w13 HXR.out HRR13.out HRB.out HRB.out (by have := HRL.out; omega) (by have := HRL.out; unfold maxLen; omega)).mono ?_
        rintro e w14 ⟨rfl, q14, rfl⟩
        rw [show decide (R = R) = true from decide_eq_true rfl]
        have hbd : Below w13.heap.size w13 (w13.drewN q14) := below_drewN (Below.refl _ _) q14
        obtain ⟨W14, hW14⟩ : ∃ W14, W14 = w13.drewN q14 := ⟨_, rfl⟩
        rw [← hW14] at hbd ⊢
        have HJ14 := Lib.hid (HJ13.out.up DC.out JC.out hbd)
        have HMR14 := Lib.hid (HMR13.out.up hbd)
        have HK14 : Hid (∀ k, (fun k => (Value.slice va r.recs.length vc).ownBlock = some k ∨ (w6.heap.size ≤ k ∧ k < w9.heap.size)) k → k < W14.heap.size) := fun k hk => Nat.lt_of_lt_of_le (HK13.out k hk) hbd.size
        have HZ14 : Hid (w6.heap.size ≤ W14.heap.size) := Nat.le_trans HZ13.out hbd.size
        clear hbd hW14 HMR13 HJ13 HK13 HRR13 HXR
        go_wp2_with fail
        refine (HJ14.out.append JC.out HK14.out am nm cm ms (HMO.out.upB HJ14.out.below) (Mine2.old HMO.out) HMO2.out.1 hcm HMO2.out.2).mono ?_
        rintro e w15 ⟨s15, r15, rfl, hj15, hl15, hor⟩
        have HMR15 := Lib.hid (HMR14.out.lets hl15 HVK.out HIK.out.2)
        have HJ15 := Lib.hid hj15
        have HK15 : Hid (∀ k, (fun k => (Value.slice va r.recs.length vc).ownBlock = some k ∨ (w6.heap.size ≤ k ∧ k < w9.heap.size)) k → k < w15.heap.size) := fun k hk => Nat.lt_of_lt_of_le (HK14.out k hk) (by obtain ⟨X, h1, -⟩ := hl15; exact h1.size)
        have HZ15 : Hid (w6.heap.size ≤ w15.heap.size) := Nat.le_trans HZ14.out (by obtain ⟨X, h1, -⟩ := hl15; exact h1.size)
        clear hj15 hl15 HMR14 HJ14 HK14
        rcases hor with ⟨e0, rfl, rfl⟩ | ⟨e0, rfl, rfl⟩
        · rw [e0, show errv ((0 : Nat) : Int) = .nilIface from rfl]
          have G15 := Lib.hid (G2.out.append e0 HMO2.out.1)
          have hrf : (stgR r5 ms 4).recs = R ++ [ms] := by show r5.recs ++ [ms] = _; rw [HR.out]
          have N1 : Hid (R.length + 1 ≤ maxLen) := by show R.length + 1 ≤ maxLen; have := HRL.out; simp only [maxLen]; omega
          have N2 : Hid ((R.length + 1) * 24 ≤ 140737488355328) := by show (R.length + 1) * 24 ≤ 140737488355328; have := HRL.out; omega
          clear e0
          go_wp2_with fail
          refine (HJ15.out.disk.crash DC.out HK15.out none 0 0 [] ⟨rfl, by simp, Or.inl rfl⟩ (fun x hx => by cases hx) (Nat.le_refl _) (by omega)).mono ?_
          rintro e w16 ⟨rfl, hd16, hl16⟩
          rw [G15.out.crash []] at hd16
          have HMR16 := Lib.hid (HMR15.out.lets hl16 HVK.out HIK.out.2)
          have HD16 := Lib.hid hd16
          have HK16 : Hid (∀ k, (fun k => (Value.slice va r.recs.length vc).ownBlock = some k ∨ (w6.heap.size ≤ k ∧ k < w9.heap.size)) k → k < w16.heap.size) := fun k hk => Nat.lt_of_lt_of_le (HK15.out k hk) (by obtain ⟨X, h1, -⟩ := hl16; exact h1.size)
          have HZ16 : Hid (w6.heap.size ≤ w16.heap.size) := Nat.le_trans HZ15.out (by obtain ⟨X, h1, -⟩ := hl16; exact h1.size)
          clear hd16 hl16 HMR15 HJ15 HK15
          go_wp2_with fail
          refine (HD16.out.open' JC.out HK16.out G15.out.byt).mono ?_
          rintro e w17 ⟨j17, rfl, hj17, hl17⟩
          rw [G15.out.open'.1, G15.out.open'.2] at hj17
          have HMR17 := Lib.hid (HMR16.out.lets hl17 HVK.out HIK.out.2)
          have HJ17 := Lib.hid hj17
          have HZ17 : Hid (w6.heap.size ≤ w17.heap.size) := Nat.le_trans HZ16.out (by obtain ⟨X, h1, -⟩ := hl17; exact h1.size)
          clear hj17 hl17 HMR16 HD16 HK16
          have hsz := HJ17.out.below.size
          have hal : Below w17.heap.size w17 (w17.alloc (Obj.cells #[.slice am nm cm] 27)) := (Below.refl _ _).alloc (Nat.le_refl _) _
          have HAL := Lib.hid hal
          have HR17 : Hid ((w17.alloc (Obj.cells #[.slice am nm cm] 27)).ownsRow w6.heap.size 27 1 (.slice ra R.length rc) R.length vr) := HMR17.out.1.alloc _
          have hz6 : Hid (w6.heap.size ≤ w17.heap.size) := HZ17.out
          clear hal
          go_wp2_with (at_builtin; refine wpList_append_cells rfl (.tmp 173) (.tmp 175) 53 rfl w6.heap.size Tsb (.slice ra R.length rc) R.length vr rfl HR17.out (some ⟨_, 0, none⟩) 1 1 [.slice am nm cm] rfl (fun h => by cases h) (one_new _ _ _) (one_sl _ _ _) N1.out N2.out (Nat.le_trans hz6.out (by simp)) ?_; intro v20 w20 o20 q20 x20 l20; have HQ20 := Lib.hid (And.intro o20 (And.intro q20 l20)); clear o20 q20 x20 l20)
          obtain ⟨o20, q20, l20⟩ := HQ20.out
          have hM20 : MixRecs w6.heap.size v20 (vr ++ [.slice am nm cm]) (R ++ [ms]) w20 := MixRecs.pushm HML.out rfl (HMR17.out.up HAL.out) ((HMO.out.upB HJ17.out.below).upB HAL.out) (fun y hy => (HMR17.out.up HAL.out).old (w0 := w) HW6.out HMO.out y hy) o20 q20 l20
          have hJ20 := (HJ17.out.up DC.out JC.out HAL.out).own DC.out JC.out ((only_grown8 q20).mono fun k _ hk => HVK.out k hk) fun k hk => Or.inl hk
          obtain ⟨za, zc, hv20, -, -, -, hzr⟩ := hM20.rows
          subst hv20
          obtain ⟨RF, hRF⟩ : ∃ RF, R ++ [ms] = RF := ⟨_, rfl⟩
          have HRFB : Hid (Byts RF) := by rw [← hRF]; exact HRB.out.snoc HMO2.out.1
          have HRFL : Hid (RF.length ≤ 22) := by show RF.length ≤ 22; have := HRL.out; rw [← hRF, List.length_append, List.length_singleton]; omega
          rw [hRF] at hzr hrf ⊢
          have HZ := Lib.hid hzr
          have HRF := Lib.hid hrf
          have HJ17 : Hid (JH D J 64 d j17 _ (stgR r5 ms 4) (fun k => (Value.slice va r.recs.length vc).ownBlock = some k ∨ (w6.heap.size ≤ k ∧ k < w9.heap.size)) w w20) := hJ20
          clear hzr hrf hRF hM20 hJ20 o20 q20 l20 HQ20 HR17 HAL HMR17
          refine (HJ17.out.records DC.out JC.out).mono ?_
          rintro e w18 ⟨v18, rfl, hown, hj18, hb18⟩
          obtain ⟨ya, yc, rfl, -, -, hyr⟩ := hown.rows
          rw [HRF.out] at hyr ⊢
          have HYR := Lib.hid hyr
          have HJ18 := Lib.hid hj18
          have HZR := Lib.hid (HZ.out.up hb18)
          clear hown hj18 hb18 hyr
          go_wp2_with fail
          refine (refSame8_any ya za RF.length yc RF.length zc RF RF w18 HYR.out HZR.out HRFB.out HRFB.out (by have := HRFL.out; omega) (by have := HRFL.out; unfold maxLen; omega)).mono ?_
          rintro e w19 ⟨rfl, q19, rfl⟩
          rw [show decide (RF = RF) = true from decide_eq_true rfl]
          go_wp2_with fail
          go_ret
          exact ⟨rfl, below_drewN HJ18.out.below q19⟩
        · obtain ⟨z, hz, hz0⟩ : ∃ z : Nat, mayN 64 r15 ms = z ∧ z ≠ 0 := ⟨_, rfl, e0⟩
          rw [hz]
          have qe := fun (w : World) (k : Int) => run_eql_errv_nil w k
          have qg := fun (t : TypeId) (x : Operand) (c : Value) (k : Int) => guard_eql_errv_nil t x c k
          have t9 : ((z : Int) == 0) = false := by simp; omega
          have G15 := Lib.hid G2.out
          clear e0 hz
          go_wp2_with fail
          refine (HJ15.out.disk.crash DC.out HK15.out none 0 0 [] ⟨rfl, by simp, Or.inl rfl⟩ (fun x hx => by cases hx) (Nat.le_refl _) (by omega)).mono ?_
          rintro e w16 ⟨rfl, hd16, hl16⟩
          rw [G15.out.crash []] at hd16
          have HMR16 := Lib.hid (HMR15.out.lets hl16 HVK.out HIK.out.2)
          have HD16 := Lib.hid hd16
          have HK16 : Hid (∀ k, (fun k => (Value.slice va r.recs.length vc).ownBlock = some k ∨ (w6.heap.size ≤ k ∧ k < w9.heap.size)) k → k < w16.heap.size) := fun k hk => Nat.lt_of_lt_of_le (HK15.out k hk) (by obtain ⟨X, h1, -⟩ := hl16; exact h1.size)
          have HZ16 : Hid (w6.heap.size ≤ w16.heap.size) := Nat.le_trans HZ15.out (by obtain ⟨X, h1, -⟩ := hl16; exact h1.size)
          clear hd16 hl16 HMR15 HJ15 HK15
          go_wp2_with fail
          refine (HD16.out.open' JC.out HK16.out G15.out.byt).mono ?_
          rintro e w17 ⟨j17, rfl, hj17, hl17⟩
          rw [G15.out.open'.1, G15.out.open'.2] at hj17
          have HMR17 := Lib.hid (HMR16.out.lets hl17 HVK.out HIK.out.2)
          have HJ17 := Lib.hid hj17
          have HZ17 : Hid (w6.heap.size ≤ w17.heap.size) := Nat.le_trans HZ16.out (by obtain ⟨X, h1, -⟩ := hl17; exact h1.size)
          clear hj17 hl17 HMR16 HD16 HK16
          obtain ⟨za, zc, he4, -, -, -, hzr⟩ := HMR17.out.rows
          have HZ : Hid (RowsOf w17 ra R.length R) := by injection he4 with e1 _ _; rw [e1]; exact hzr
          have HRF := HR
          have HRFB := HRB
          have HRFL := HRL
          clear he4 hzr
          go_wp2_with fail
          refine (HJ17.out.records DC.out JC.out).mono ?_
          rintro e w18 ⟨v18, rfl, hown, hj18, hb18⟩
          obtain ⟨ya, yc, rfl, -, -, hyr⟩ := hown.rows
          rw [HRF.out] at hyr ⊢
          have HYR := Lib.hid hyr
          have HJ18 := Lib.hid hj18
          have HZR := Lib.hid (HZ.out.up hb18)
          clear hown hj18 hb18 hyr
          go_wp2_with fail
          refine (refSame8_any ya ra R.length yc R.length rc R R w18 HYR.out HZR.out HRFB.out HRFB.out (by have := HRFL.out; omega) (by have := HRFL.out; unfold maxLen; omega)).mono ?_
          rintro e w19 ⟨rfl, q19, rfl⟩
          rw [show decide (R = R) = true from decide_eq_true rfl]
          go_wp2_with fail
          go_ret
          exact ⟨rfl, below_drewN HJ18.out.below q19⟩
      · rw [show decide (R = r.recs) = false from decide_eq_false hA, show errv ((0 : Nat) : Int) = .nilIface from rfl]
        have HRW : Hid (decide (R = r.recs ++ [bs]) = true) := decide_eq_true hB
        clear hA hB
        have hwl : (r.recs ++ [bs]).length = r.recs.length + 1 := by rw [List.length_append]; rfl
        rw [hwl] at HWR ⊢
        have hws : r.recs.length + 1 ≤ maxLen := by unfold maxLen; omega
        go_wp2_with fail
        refine (refSame8_any ra wa R.length rc (r.recs.length + 1) wc R (r.recs ++ [bs]) _ (HRR.out.up (below_drewN (Below.refl _ _) q10)) (HWR.out.up (below_drewN (Below.refl _ _) q10)) HRB.out HWB.out (by have := HRL.out; omega) hws).mono ?_
        rintro e w10b ⟨rfl, q10b, rfl⟩
        rw [HRW.out]
        have HBW : Hid (Below w9.heap.size w9 ((w9.drewN q10).drewN q10b)) := below_drewN (below_drewN (Below.refl _ _) q10) q10b
        obtain ⟨W10, hW10⟩ : ∃ W10, W10 = (w9.drewN q10).drewN q10b := ⟨_, rfl⟩
        rw [← hW10] at HBW ⊢
        clear hW10
        go_wp2_with fail
        refine ((H9.out.up DC.out JC.out HBW.out).disk.crash DC.out (fun k hk => Nat.lt_of_lt_of_le (HK9.out k hk) HBW.out.size) none 0 0 [] ⟨rfl, by simp, Or.inl rfl⟩ (fun x hx => by cases hx) (Nat.le_refl _) (by omega)).mono ?_
        rintro e w11 ⟨rfl, hd11, hl11⟩
        rw [G2.out.crash []] at hd11
        have HMR11 := Lib.hid ((HMR9.out.up HBW.out).lets hl11 HVK.out HIK.out.2)
        have HD11 := Lib.hid hd11
        have HK11 : Hid (∀ k, (fun k => (Value.slice va r.recs.length vc).ownBlock = some k ∨ (w6.heap.size ≤ k ∧ k < w9.heap.size)) k → k < w11.heap.size) := fun k hk => Nat.lt_of_lt_of_le (Nat.lt_of_lt_of_le (HK9.out k hk) HBW.out.size) (by obtain ⟨X, h1, -⟩ := hl11; exact h1.size)
        have HZ11 : Hid (w6.heap.size ≤ w11.heap.size) := Nat.le_trans (Nat.le_trans HZ9.out HBW.out.size) (by obtain ⟨X, h1, -⟩ := hl11; exact h1.size)
        clear hd11 hl11 HMR9 H9 HK9 HM9
        go_wp2_with fail
        refine (HD11.out.open' JC.out HK11.out G2.out.byt).mono ?_
        rintro e w12 ⟨j12, rfl, hj12, hl12⟩
        rw [G2.out.open'.1, G2.out.open'.2] at hj12
        have HMR12 := Lib.hid (HMR11.out.lets hl12 HVK.out HIK.out.2)
        have HJ12 := Lib.hid hj12
        have HK12 : Hid (∀ k, (fun k => (Value.slice va r.recs.length vc).ownBlock = some k ∨ (w6.heap.size ≤ k ∧ k < w9.heap.size)) k → k < w12.heap.size) := fun k hk => Nat.lt_of_lt_of_le (HK11.out k hk) (by obtain ⟨X, h1, -⟩ := hl12; exact h1.size)
        have HZ12 : Hid (w6.heap.size ≤ w12.heap.size) := Nat.le_trans HZ11.out (by obtain ⟨X, h1, -⟩ := hl12; exact h1.size)
        clear hj12 hl12 HMR11 HD11 HK11
        go_wp2_with fail
        refine (HJ12.out.records DC.out JC.out).mono ?_
        rintro e w13 ⟨v13, rfl, hown, hj13, hb13⟩
        obtain ⟨xa, xc, rfl, -, -, hxr⟩ := hown.rows
        rw [HR.out] at hxr ⊢
        have HXR := Lib.hid hxr
        have HJ13 := Lib.hid hj13
        have HMR13 := Lib.hid (HMR12.out.up hb13)
        have HK13 : Hid (∀ k, (fun k => (Value.slice va r.recs.length vc).ownBlock = some k ∨ (w6.heap.size ≤ k ∧ k < w9.heap.size)) k → k < w13.heap.size) := fun k hk => Nat.lt_of_lt_of_le (HK12.out k hk) hb13.size
        obtain ⟨ra3, rc3, he3, -, -, -, hrr3⟩ := HMR13.out.rows
        have HRR13 : Hid (RowsOf w13 ra R.length R) := by injection he3 with e1 _ _; rw [e1]; exact hrr3
        have HZ13 : Hid (w6.heap.size ≤ w13.heap.size) := Nat.le_trans HZ12.out hb13.size
        clear hown hj13 hb13 hxr he3 hrr3 HMR12 HJ12 HK12
        go_wp2_with fail
        refine (refSame8_any xa ra R.length xc R.length rc R R w13 HXR.out HRR13.out HRB.out HRB.out (by have := HRL.out; omega) (by have := HRL.out; unfold maxLen; omega)).mono ?_
        rintro e w14 ⟨rfl, q14, rfl⟩
        rw [show decide (R = R) = true from decide_eq_true rfl]
        have hbd : Below w13.heap.size w13 (w13.drewN q14) := below_drewN (Below.refl _ _) q14
        obtain ⟨W14, hW14⟩ : ∃ W14, W14 = w13.drewN q14 := ⟨_, rfl⟩
        rw [← hW14] at hbd ⊢
        have HJ14 := Lib.hid (HJ13.out.up DC.out JC.out hbd)
        have HMR14 := Lib.hid (HMR13.out.up hbd)
        have HK14 : Hid (∀ k, (fun k => (Value.slice va r.recs.length vc).ownBlock = some k ∨ (w6.heap.size ≤ k ∧ k < w9.heap.size)) k → k < W14.heap.size) := fun k hk => Nat.lt_of_lt_of_le (HK13.out k hk) hbd.size
        have HZ14 : Hid (w6.heap.size ≤ W14.heap.size) := Nat.le_trans HZ13.out hbd.size
        clear hbd hW14 HMR13 HJ13 HK13 HRR13 HXR
        go_wp2_with fail
        refine (HJ14.out.append JC.out HK14.out am nm cm ms (HMO.out.upB HJ14.out.below) (Mine2.old HMO.out) HMO2.out.1 hcm HMO2.out.2).mono ?_
        rintro e w15 ⟨s15, r15, rfl, hj15, hl15, hor⟩
        have HMR15 := Lib.hid (HMR14.out.lets hl15 HVK.out HIK.out.2)
        have HJ15 := Lib.hid hj15
        have HK15 : Hid (∀ k, (fun k => (Value.slice va r.recs.length vc).ownBlock = some k ∨ (w6.heap.size ≤ k ∧ k < w9.heap.size)) k → k < w15.heap.size) := fun k hk => Nat.lt_of_lt_of_le (HK14.out k hk) (by obtain ⟨X, h1, -⟩ := hl15; exact h1.size)
        have HZ15 : Hid (w6.heap.size ≤ w15.heap.size) := Nat.le_trans HZ14.out (by obtain ⟨X, h1, -⟩ := hl15; exact h1.size)
        clear hj15 hl15 HMR14 HJ14 HK14
        rcases hor with ⟨e0, rfl, rfl⟩ | ⟨e0, rfl, rfl⟩
        · rw [e0, show errv ((0 : Nat) : Int) = .nilIface from rfl]
          have G15 := Lib.hid (G2.out.append e0 HMO2.out.1)
          have hrf : (stgR r5 ms 4).recs = R ++ [ms] := by show r5.recs ++ [ms] = _; rw [HR.out]
          have N1 : Hid (R.length + 1 ≤ maxLen) := by show R.length + 1 ≤ maxLen; have := HRL.out; simp only [maxLen]; omega
          have N2 : Hid ((R.length + 1) * 24 ≤ 140737488355328) := by show (R.length + 1) * 24 ≤ 140737488355328; have := HRL.out; omega
          clear e0
          go_wp2_with fail
          refine (HJ15.out.disk.crash DC.out HK15.out none 0 0 [] ⟨rfl, by simp, Or.inl rfl⟩ (fun x hx => by cases hx) (Nat.le_refl _) (by omega)).mono ?_
          rintro e w16 ⟨rfl, hd16, hl16⟩
          rw [G15.out.crash []] at hd16
          have HMR16 := Lib.hid (HMR15.out.lets hl16 HVK.out HIK.out.2)
          have HD16 := Lib.hid hd16
          have HK16 : Hid (∀ k, (fun k => (Value.slice va r.recs.length vc).ownBlock = some k ∨ (w6.heap.size ≤ k ∧ k < w9.heap.size)) k → k < w16.heap.size) := fun k hk => Nat.lt_of_lt_of_le (HK15.out k hk) (by obtain ⟨X, h1, -⟩ := hl16; exact h1.size)
          have HZ16 : Hid (w6.heap.size ≤ w16.heap.size) := Nat.le_trans HZ15.out (by obtain ⟨X, h1, -⟩ := hl16; exact h1.size)
          clear hd16 hl16 HMR15 HJ15 HK15
          go_wp2_with fail
          refine (HD16.out.open' JC.out HK16.out G15.out.byt).mono ?_
          rintro e w17 ⟨j17, rfl, hj17, hl17⟩
          rw [G15.out.open'.1, G15.out.open'.2] at hj17
          have HMR17 := Lib.hid (HMR16.out.lets hl17 HVK.out HIK.out.2)
          have HJ17 := Lib.hid hj17
          have HZ17 : Hid (w6.heap.size ≤ w17.heap.size) := Nat.le_trans HZ16.out (by obtain ⟨X, h1, -⟩ := hl17; exact h1.size)
          clear hj17 hl17 HMR16 HD16 HK16
          have hsz := HJ17.out.below.size
          have hal : Below w17.heap.size w17 (w17.alloc (Obj.cells #[.slice am nm cm] 27)) := (Below.refl _ _).alloc (Nat.le_refl _) _
          have HAL := Lib.hid hal
          have HR17 : Hid ((w17.alloc (Obj.cells #[.slice am nm cm] 27)).ownsRow w6.heap.size 27 1 (.slice ra R.length rc) R.length vr) := HMR17.out.1.alloc _
          have hz6 : Hid (w6.heap.size ≤ w17.heap.size) := HZ17.out
          clear hal
          go_wp2_with (at_builtin; refine wpList_append_cells rfl (.tmp 173) (.tmp 175) 53 rfl w6.heap.size Tsb (.slice ra R.length rc) R.length vr rfl HR17.out (some ⟨_, 0, none⟩) 1 1 [.slice am nm cm] rfl (fun h => by cases h) (one_new _ _ _) (one_sl _ _ _) N1.out N2.out (Nat.le_trans hz6.out (by simp)) ?_; intro v20 w20 o20 q20 x20 l20; have HQ20 := Lib.hid (And.intro o20 (And.intro q20 l20)); clear o20 q20 x20 l20)
          obtain ⟨o20, q20, l20⟩ := HQ20.out
          have hM20 : MixRecs w6.heap.size v20 (vr ++ [.slice am nm cm]) (R ++ [ms]) w20 := MixRecs.pushm HML.out rfl (HMR17.out.up HAL.out) ((HMO.out.upB HJ17.out.below).upB HAL.out) (fun y hy => (HMR17.out.up HAL.out).old (w0 := w) HW6.out HMO.out y hy) o20 q20 l20
          have hJ20 := (HJ17.out.up DC.out JC.out HAL.out).own DC.out JC.out ((only_grown8 q20).mono fun k _ hk => HVK.out k hk) fun k hk => Or.inl hk
          obtain ⟨za, zc, hv20, -, -, -, hzr⟩ := hM20.rows
          subst hv20
          obtain ⟨RF, hRF⟩ : ∃ RF, R ++ [ms] = RF := ⟨_, rfl⟩
          have HRFB : Hid (Byts RF) := by rw [← hRF]; exact HRB.out.snoc HMO2.out.1
          have HRFL : Hid (RF.length ≤ 22) := by show RF.length ≤ 22; have := HRL.out; rw [← hRF, List.length_append, List.length_singleton]; omega
          rw [hRF] at hzr hrf ⊢
          have HZ := Lib.hid hzr
          have HRF := Lib.hid hrf
          have HJ17 : Hid (JH D J 64 d j17 _ (stgR r5 ms 4) (fun k => (Value.slice va r.recs.length vc).ownBlock = some k ∨ (w6.heap.size ≤ k ∧ k < w9.heap.size)) w w20) := hJ20
          clear hzr hrf hRF hM20 hJ20 o20 q20 l20 HQ20 HR17 HAL HMR17
          refine (HJ17.out.records DC.out JC.out).mono ?_
          rintro e w18 ⟨v18, rfl, hown, hj18, hb18⟩
          obtain ⟨ya, yc, rfl, -, -, hyr⟩ := hown.rows
          rw [HRF.out] at hyr ⊢
          have HYR := Lib.hid hyr
          have HJ18 := Lib.hid hj18
          have HZR := Lib.hid (HZ.out.up hb18)
          clear hown hj18 hb18 hyr
          go_wp2_with fail
          refine (refSame8_any ya za RF.length yc RF.length zc RF RF w18 HYR.out HZR.out HRFB.out HRFB.out (by have := HRFL.out; omega) (by have := HRFL.out; unfold maxLen; omega)).mono ?_
          rintro e w19 ⟨rfl, q19, rfl⟩
          rw [show decide (RF = RF) = true from decide_eq_true rfl]
          go_wp2_with fail
          go_ret
          exact ⟨rfl, below_drewN HJ18.out.below q19⟩
        · obtain ⟨z, hz, hz0⟩ : ∃ z : Nat, mayN 64 r15 ms = z ∧ z ≠ 0 := ⟨_, rfl, e0⟩
          rw [hz]
          have qe := fun (w : World) (k : Int) => run_eql_errv_nil w k
          have qg := fun (t : TypeId) (x : Operand) (c : Value) (k : Int) => guard_eql_errv_nil t x c k
          have t9 : ((z : Int) == 0) = false := by simp; omega
          have G15 := Lib.hid G2.out
          clear e0 hz
          go_wp2_with fail
          refine (HJ15.out.disk.crash DC.out HK15.out none 0 0 [] ⟨rfl, by simp, Or.inl rfl⟩ (fun x hx => by cases hx) (Nat.le_refl _) (by omega)).mono ?_
          rintro e w16 ⟨rfl, hd16, hl16⟩
          rw [G15.out.crash []] at hd16
          have HMR16 := Lib.hid (HMR15.out.lets hl16 HVK.out HIK.out.2)
          have HD16 := Lib.hid hd16
          have HK16 : Hid (∀ k, (fun k => (Value.slice va r.recs.length vc).ownBlock = some k ∨ (w6.heap.size ≤ k ∧ k < w9.heap.size)) k → k < w16.heap.size) := fun k hk => Nat.lt_of_lt_of_le (HK15.out k hk) (by obtain ⟨X, h1, -⟩ := hl16; exact h1.size)
          have HZ16 : Hid (w6.heap.size ≤ w16.heap.size) := Nat.le_trans HZ15.out (by obtain ⟨X, h1, -⟩ := hl16; exact h1.size)
          clear hd16 hl16 HMR15 HJ15 HK15
          go_wp2_with fail
          refine (HD16.out.open' JC.out HK16.out G15.out.byt).mono ?_
          rintro e w17 ⟨j17, rfl, hj17, hl17⟩
          rw [G15.out.open'.1, G15.out.open'.2] at hj17
          have HMR17 := Lib.hid (HMR16.out.lets hl17 HVK.out HIK.out.2)
          have HJ17 := Lib.hid hj17
          have HZ17 : Hid (w6.heap.size ≤ w17.heap.size) := Nat.le_trans HZ16.out (by obtain ⟨X, h1, -⟩ := hl17; exact h1.size)
          clear hj17 hl17 HMR16 HD16 HK16
          obtain ⟨za, zc, he4, -, -, -, hzr⟩ := HMR17.out.rows
          have HZ : Hid (RowsOf w17 ra R.length R) := by injection he4 with e1 _ _; rw [e1]; exact hzr
          have HRF := HR
          have HRFB := HRB
          have HRFL := HRL
          clear he4 hzr
          go_wp2_with fail
          refine (HJ17.out.records DC.out JC.out).mono ?_
          rintro e w18 ⟨v18, rfl, hown, hj18, hb18⟩
          obtain ⟨ya, yc, rfl, -, -, hyr⟩ := hown.rows
          rw [HRF.out] at hyr ⊢
          have HYR := Lib.hid hyr
          have HJ18 := Lib.hid hj18
          have HZR := Lib.hid (HZ.out.up hb18)
          clear hown hj18 hb18 hyr
          go_wp2_with fail
          refine (refSame8_any ya ra R.length yc R.length rc R R w18 HYR.out HZR.out HRFB.out HRFB.out (by have := HRFL.out; omega) (by have := HRFL.out; unfold maxLen; omega)).mono ?_
          rintro e w19 ⟨rfl, q19, rfl⟩
          rw [show decide (R = R) = true from decide_eq_true rfl]
          go_wp2_with fail
          go_ret
          exact ⟨rfl, below_drewN HJ18.out.below q19⟩
end
end Go.Proofs.Ytehfbafocbcfnaa
