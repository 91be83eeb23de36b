/- The walk of JournalOrder: records are told in their order, and each leaves so much less room. -/
import Derived.Test.YtehfbafocbcfnaaJrnC
import Derived.Test.YtehfbafocbcfnaaRecs3
namespace Go.Proofs.Ytehfbafocbcfnaa
open Go Go.RowKit
set_option linter.unusedVariables false

theorem may_order {n : Nat} {r : Jr} (hb : r.bad = false) {b : List Nat} (h : b.length ≤ 300) (hf : r.fin + 8 + 300 ≤ 64 * n) : (mayN n r b = 0 ∧ 1 ≤ b.length) ∨ (mayN n r b = 1 ∧ b.length = 0) := by
  unfold mayN
  rw [hb, if_neg (by simp)]
  by_cases h0 : b.length = 0
  · right; rw [if_pos (Or.inl (by omega))]; exact ⟨rfl, h0⟩
  · left
    rw [if_neg (by omega), if_neg]
    · exact ⟨rfl, by omega⟩
    · unfold freeN; rw [hb, if_neg (by simp)]; omega

section
variable {D : Nat → (Nat → Prop) → Addr → Dsk → World → Prop} {J : Nat → (Nat → Prop) → Addr → Addr → Jr → World → Prop}

set_option maxRecDepth 100000 in
set_option maxHeartbeats 16000000 in
theorem journalOrder_walk (DC : Hid (DiskC D)) (JC : Hid (JrnC D J)) (a : Option Addr) (na ca : Nat) (xs : List Nat) (b : Option Addr) (nb cb : Nat) (ys : List Nat) (w : World)
    (ha : Cells w a na (xs.map b8)) (ha256 : ∀ x ∈ xs, x < 256) (hca : na ≤ ca) (hma : ca ≤ maxLen) (hb : Cells w b nb (ys.map b8)) (hb256 : ∀ x ∈ ys, x < 256) (hcb : nb ≤ cb) (hmb : cb ≤ maxLen) :
    Calls Try.prog 7 #[.slice a na ca, .slice b nb cb] w fun e w' => e = .returned (.bool true) ∧ Below w.heap.size w w' := by
  have HA := Lib.hid ha
  have HB := Lib.hid hb
  have HA2 := Lib.hid (And.intro ha256 hma)
  have HB2 := Lib.hid (And.intro hb256 hmb)
  have HAL : Hid (xs.length = na) := by have := ha.1; rw [List.length_map] at this; exact this
  have HBL : Hid (ys.length = nb) := by have := hb.1; rw [List.length_map] at this; exact this
  clear ha hb ha256 hb256 hma hmb
  go_enter Try.func7, Try.ntmps7
  go_wp2_with fail
  refine (up08_any DC JC _).mono ?_
  rintro e w1 ⟨rfl, hb1⟩
  have HB1 := Lib.hid hb1
  clear hb1
  by_cases hbig : 300 < na ∨ (na ≤ 300 ∧ 300 < nb)
  · rcases hbig with h | ⟨h, h'⟩
    · have t1 : (300 : Int) < (na : Int) := by omega
      go_wp2_with fail
      go_ret
      exact ⟨rfl, HB1.out⟩
    · have t1 : (na : Int) ≤ 300 := by omega
      have t2 : (300 : Int) < (nb : Int) := by omega
      go_wp2_with fail
      go_ret
      exact ⟨rfl, HB1.out⟩
  have hna : na ≤ 300 := by omega
  have hnb : nb ≤ 300 := by omega
  have t1 : (na : Int) ≤ 300 := by omega
  have t2 : (nb : Int) ≤ 300 := by omega
  clear hbig
  go_wp2_with fail
  refine (DC.out.new 16 _ (by unfold i64d; omega)).mono ?_
  rintro e w2 ⟨hb2, ⟨-, -, d, F1, rfl, hD1, hF1⟩ | ⟨h, -⟩⟩
  rotate_left
  · omega
  have H1 : Hid (DHold D 16 d (Dsk.zero 16) w w2) := ⟨⟨F1, hD1, fun k hk => Nat.le_trans HB1.out.size (hF1 k hk)⟩, HB1.out.trans (hb2.mono HB1.out.size)⟩
  clear hD1 hF1 hb2
  go_wp2_with fail
  refine (H1.out.open' JC.out (Dsk.byt_zero 16)).mono ?_
  rintro e w3 ⟨j, rfl, hj⟩
  rw [((good_zero 16).open').1, ((good_zero 16).open').2] at hj
  have H2 := Lib.hid hj
  clear hj H1
  go_wp2_with fail
  refine (H2.out.free DC.out JC.out).mono ?_
  rintro e w4 ⟨rfl, hj, -⟩
  rw [show freeN 16 ⟨[], 0, false⟩ = 1016 by decide +kernel]
  have H3 := Lib.hid hj
  clear hj H2
  go_wp2_with fail
  refine (H3.out.append JC.out a na ca xs HA.out HA2.out.1 hca HA2.out.2).mono ?_
  rintro e w5 ⟨s1, r1, rfl, hj, hor⟩
  have H4 := Lib.hid hj
  clear hj H3
  have h1 := may_order (n := 16) (r := ⟨[], 0, false⟩) rfl (b := xs) (by rw [HAL.out]; exact hna) (by show 0 + 8 + 300 ≤ 64 * 16; omega)
  have hfr : ((freeN 16 r1 : Nat) : Int) = 1016 - (if 1 ≤ na then (na : Int) + 8 else 0) ∧ r1.bad = false ∧ r1.fin ≤ 308 ∧ r1.recs = if 1 ≤ na then [xs] else [] := by
    have hl := HAL.out
    rcases h1 with ⟨h1, h2⟩ | ⟨h1, h2⟩
    · rcases hor with ⟨-, -, e⟩ | ⟨h3, -⟩
      · subst e
        rw [if_pos (by omega), if_pos (by omega)]
        refine ⟨?_, rfl, ?_, rfl⟩
        · show ((freeN 16 ⟨[] ++ [xs], 0 + 8 + xs.length, false⟩ : Nat) : Int) = _
          unfold freeN; simp only [Bool.false_eq_true, if_false]; omega
        · show 0 + 8 + xs.length ≤ 308; omega
      · exact absurd h1 h3
    · rcases hor with ⟨h3, -, e⟩ | ⟨-, -, e⟩
      · rw [h1] at h3; cases h3
      · subst e
        rw [if_neg (by omega), if_neg (by omega)]
        exact ⟨by decide +kernel, rfl, by show 0 ≤ 308; omega, rfl⟩
  obtain ⟨f1, f2, f3, f4⟩ := hfr
  obtain ⟨mm, hmm⟩ : ∃ mm : Int, 1016 - (if 1 ≤ na then (na : Int) + 8 else 0) = mm := ⟨_, rfl⟩
  rw [hmm] at f1
  have hmm1 : 1 ≤ na → mm = 1008 - (na : Int) := fun h => by rw [if_pos h] at hmm; omega
  have hmm2 : na = 0 → mm = 1016 := fun h => by rw [if_neg (by omega)] at hmm; omega
  have HMM := Lib.hid (And.intro hmm1 hmm2)
  clear hmm hmm1 hmm2
  have HF1 := Lib.hid f1
  have HF4 := Lib.hid f4
  have h2 := may_order (n := 16) (r := r1) f2 (b := ys) (by rw [HBL.out]; exact hnb) (by omega)
  have HE1 : Hid ((mayN 16 ⟨[], 0, false⟩ xs = 0 ∧ 1 ≤ na) ∨ (mayN 16 ⟨[], 0, false⟩ xs = 1 ∧ na = 0)) := by have := h1; rw [HAL.out] at this; exact this
  have HE2 : Hid ((mayN 16 r1 ys = 0 ∧ 1 ≤ nb) ∨ (mayN 16 r1 ys = 1 ∧ nb = 0)) := by have := h2; rw [HBL.out] at this; exact this
  clear h1 h2 hor f1 f2 f3 f4
  go_wp2_with fail
  refine (H4.out.free DC.out JC.out).mono ?_
  rintro e w6 ⟨rfl, hj, -⟩
  rw [HF1.out]
  have H5 := Lib.hid hj
  clear hj H4
  go_wp2_with fail
  refine (H5.out.append JC.out b nb cb ys HB.out HB2.out.1 hcb HB2.out.2).mono ?_
  rintro e w7 ⟨s2, r2, rfl, hj, hor⟩
  have H6 := Lib.hid hj
  clear hj H5
  have hr2 : r2.recs = (if 1 ≤ na then [xs] else []) ++ (if 1 ≤ nb then [ys] else []) := by
    rcases hor with ⟨h3, -, e⟩ | ⟨h3, -, e⟩
    · subst e
      rcases HE2.out with ⟨h4, h5⟩ | ⟨h4, h5⟩
      · rw [if_pos h5, ← HF4.out]; rfl
      · rw [h4] at h3; cases h3
    · subst e
      rcases HE2.out with ⟨h4, h5⟩ | ⟨h4, h5⟩
      · exact absurd h4 h3
      · rw [if_neg (c := 1 ≤ nb) (by omega), HF4.out, List.append_nil]
  have HR2 := Lib.hid hr2
  clear hr2 hor
  have HBW : Hid (Below w.heap.size w w7) := H6.out.below
  have hn7 := HBW.out.size
  have M1 : Hid (0 + 1 ≤ maxLen) := by show 0 + 1 ≤ maxLen; simp only [maxLen]; omega
  have M2 : Hid ((0 + 1) * 24 ≤ 140737488355328) := by show (0 + 1) * 24 ≤ 140737488355328; omega
  have M3 : Hid ((0 + 1) * 24 ≤ 140737488355328) := M2
  have M4 : Hid ((1 + 1) * 24 ≤ 140737488355328) := by show (1 + 1) * 24 ≤ 140737488355328; omega
  have M2 : Hid (1 + 1 ≤ maxLen) := by show 1 + 1 ≤ maxLen; simp only [maxLen]; omega
  rcases HE1.out with ⟨e1, n1⟩ | ⟨e1, n1⟩ <;> rcases HE2.out with ⟨e2, n2⟩ | ⟨e2, n2⟩
  · rw [e1, e2, show errv ((0 : Nat) : Int) = .nilIface from rfl]
    rw [if_pos n1, if_pos n2] at HR2
    obtain rfl := HMM.out.1 n1
    have s15 : IntKind.i64.wrap (1016 - (1008 - (na : Int))) = (na : Int) + 8 := by rw [IntWalk.i64_in _ (by omega)]; omega
    have s16 : IntKind.i64.wrap ((na : Int) + 8) = (na : Int) + 8 := IntWalk.i64_in _ (by omega)
    have g0 : (0 : Int) < (na : Int) := by omega
    have g1 : (0 : Int) < (nb : Int) := by omega
    have HBY : Hid (Byts [xs, ys]) := fun r hr => by
      rcases List.mem_cons.1 hr with rfl | hr
      · exact HA2.out.1
      · rw [List.mem_singleton.1 hr]; exact HB2.out.1
    go_wp2_with (first
      | (at_builtin; refine wpList_append_cells rfl (.tmp 59) (.tmp 61) 53 rfl w7.heap.size Tsb _ 0 [] rfl (World.ownsRow_nil _ _ _ _) (some ⟨_, 0, none⟩) 1 1 [.slice a na ca] rfl (fun h => by cases h) (one_new _ _ _) (one_sl _ _ _) M1.out M3.out (Nat.le_trans (Nat.le_refl _) (by simp)) ?_; intro v1 w8 o1 q1 r1 l1; have hs8 : w7.heap.size ≤ w8.heap.size := Nat.le_trans (by simp) q1.size; have O1 := Lib.hid (o1.alloc (Obj.cells #[.slice b nb cb] 27)))
      | (at_builtin; refine wpList_append_cells rfl (.tmp 65) (.tmp 67) 53 rfl w7.heap.size Tsb _ 1 [.slice a na ca] rfl O1.out (some ⟨_, 0, none⟩) 1 1 [.slice b nb cb] rfl (fun h => by cases h) (one_new _ _ _) (one_sl _ _ _) M2.out M4.out (Nat.le_trans hs8 (by simp)) ?_; intro v2 w9 o2 q2 r2 l2))
    have hb8 : Below w7.heap.size w7 w8 := ((Below.refl w7.heap.size w7).alloc (Nat.le_refl _) (Obj.cells #[.slice a na ca] 27)).grown q1 (by simp) (fun z hz => by cases hz)
    have hbw : Below w7.heap.size w7 w9 := (hb8.alloc hs8 (Obj.cells #[.slice b nb cb] 27)).grown q2 (Nat.le_trans hs8 (by simp)) (fun z hz => (o1.lt z hz).1)
    have hM1 : MixRecs w7.heap.size v1 ([] ++ [.slice a na ca]) ([] ++ [xs]) w8 := MixRecs.pushm (k := 0) HAL.out rfl (MixRecs.nil w7.heap.size (w7.alloc (Obj.cells #[.slice a na ca] 27))) ((HA.out.upB HBW.out).upB ((Below.refl _ _).alloc (Nat.le_refl _) _)) (fun x hx => (MixRecs.nil w7.heap.size w7).old (w0 := w) hn7 HA.out x hx) o1 q1 l1
    have hM1' := hM1.up ((Below.refl w8.heap.size w8).alloc (Nat.le_refl _) (Obj.cells #[.slice b nb cb] 27))
    have hM : MixRecs w7.heap.size v2 (([] ++ [.slice a na ca]) ++ [.slice b nb cb]) (([] ++ [xs]) ++ [ys]) w9 := MixRecs.pushm (k := 1) HBL.out rfl hM1' (((HB.out.upB HBW.out).upB hb8).upB ((Below.refl _ _).alloc (Nat.le_refl _) _)) (fun x hx => hM1'.old (w0 := w) hn7 HB.out x hx) o2 q2 l2
    obtain ⟨va, vc, rfl, hcv, hmv, -, hrows⟩ := hM.rows
    have H7 := Lib.hid (H6.out.up DC.out JC.out hbw)
    have HROWS := Lib.hid hrows
    clear hrows hM
    go_wp2_with fail
    refine (H7.out.records DC.out JC.out).mono ?_
    rintro e w10 ⟨vr, rfl, hown, hj, hb10⟩
    obtain ⟨ra, rc, rfl, hrc, -, hrr⟩ := hown.rows
    rw [HR2.out] at hrr ⊢
    have HRR := Lib.hid hrr
    have HW10 := Lib.hid hb10
    have HJ := Lib.hid hj
    clear hown hrr hb10 hj
    go_wp2_with fail
    refine (refSame8_any ra va _ rc _ vc _ _ _ HRR.out (HROWS.out.up HW10.out) HBY.out HBY.out (by simp) (by simp [maxLen])).mono ?_
    rintro e w11 ⟨rfl, q, rfl⟩
    go_wp2_with fail
    go_ret
    exact ⟨by simp, below_drewN HJ.out.below q⟩
  · rw [e1, e2, show errv ((0 : Nat) : Int) = .nilIface from rfl, show errv ((1 : Nat) : Int) = errD 1 from rfl]
    rw [if_pos n1, if_neg (c := 1 ≤ nb) (by omega)] at HR2
    obtain rfl := HMM.out.1 n1
    have s15 : IntKind.i64.wrap (1016 - (1008 - (na : Int))) = (na : Int) + 8 := by rw [IntWalk.i64_in _ (by omega)]; omega
    have s16 : IntKind.i64.wrap ((na : Int) + 8) = (na : Int) + 8 := IntWalk.i64_in _ (by omega)
    have g0 : (0 : Int) < (na : Int) := by omega
    subst n2
    have HBY : Hid (Byts [xs]) := fun r hr => by rw [List.mem_singleton.1 hr]; exact HA2.out.1
    go_wp2_with (at_builtin; refine wpList_append_cells rfl (.tmp 59) (.tmp 61) 53 rfl w7.heap.size Tsb _ 0 [] rfl (World.ownsRow_nil _ _ _ _) (some ⟨_, 0, none⟩) 1 1 [.slice a na ca] rfl (fun h => by cases h) (one_new _ _ _) (one_sl _ _ _) M1.out M3.out (Nat.le_trans (Nat.le_refl _) (by simp)) ?_; intro v1 w8 o1 q1 r1 l1)
    have hbw : Below w7.heap.size w7 w8 := ((Below.refl w7.heap.size w7).alloc (Nat.le_refl _) (Obj.cells #[.slice a na ca] 27)).grown q1 (by simp) (fun z hz => by cases hz)
    have hM : MixRecs w7.heap.size v1 ([] ++ [.slice a na ca]) ([] ++ [xs]) w8 := MixRecs.pushm (k := 0) HAL.out rfl (MixRecs.nil w7.heap.size (w7.alloc (Obj.cells #[.slice a na ca] 27))) ((HA.out.upB HBW.out).upB ((Below.refl _ _).alloc (Nat.le_refl _) _)) (fun x hx => (MixRecs.nil w7.heap.size w7).old (w0 := w) hn7 HA.out x hx) o1 q1 l1
    obtain ⟨va, vc, rfl, hcv, hmv, -, hrows⟩ := hM.rows
    have H7 := Lib.hid (H6.out.up DC.out JC.out hbw)
    have HROWS := Lib.hid hrows
    clear hrows hM
    go_wp2_with fail
    refine (H7.out.records DC.out JC.out).mono ?_
    rintro e w10 ⟨vr, rfl, hown, hj, hb10⟩
    obtain ⟨ra, rc, rfl, hrc, -, hrr⟩ := hown.rows
    rw [HR2.out] at hrr ⊢
    have HRR := Lib.hid hrr
    have HW10 := Lib.hid hb10
    have HJ := Lib.hid hj
    clear hown hrr hb10 hj
    go_wp2_with fail
    refine (refSame8_any ra va _ rc _ vc _ _ _ HRR.out (HROWS.out.up HW10.out) HBY.out HBY.out (by simp) (by simp [maxLen])).mono ?_
    rintro e w11 ⟨rfl, q, rfl⟩
    go_wp2_with fail
    go_ret
    exact ⟨by simp, below_drewN HJ.out.below q⟩
  · rw [e1, e2, show errv ((0 : Nat) : Int) = .nilIface from rfl, show errv ((1 : Nat) : Int) = errD 1 from rfl]
    rw [if_neg (c := 1 ≤ na) (by omega), if_pos n2] at HR2
    obtain rfl := HMM.out.2 n1
    have g1 : (0 : Int) < (nb : Int) := by omega
    subst n1
    have HBY : Hid (Byts [ys]) := fun r hr => by rw [List.mem_singleton.1 hr]; exact HB2.out.1
    go_wp2_with (at_builtin; refine wpList_append_cells rfl (.tmp 65) (.tmp 67) 53 rfl w7.heap.size Tsb _ 0 [] rfl (World.ownsRow_nil _ _ _ _) (some ⟨_, 0, none⟩) 1 1 [.slice b nb cb] rfl (fun h => by cases h) (one_new _ _ _) (one_sl _ _ _) M1.out M3.out (Nat.le_trans (Nat.le_refl _) (by simp)) ?_; intro v1 w8 o1 q1 r1 l1)
    have hbw : Below w7.heap.size w7 w8 := ((Below.refl w7.heap.size w7).alloc (Nat.le_refl _) (Obj.cells #[.slice b nb cb] 27)).grown q1 (by simp) (fun z hz => by cases hz)
    have hM : MixRecs w7.heap.size v1 ([] ++ [.slice b nb cb]) ([] ++ [ys]) w8 := MixRecs.pushm (k := 0) HBL.out rfl (MixRecs.nil w7.heap.size (w7.alloc (Obj.cells #[.slice b nb cb] 27))) ((HB.out.upB HBW.out).upB ((Below.refl _ _).alloc (Nat.le_refl _) _)) (fun x hx => (MixRecs.nil w7.heap.size w7).old (w0 := w) hn7 HB.out x hx) o1 q1 l1
    obtain ⟨va, vc, rfl, hcv, hmv, -, hrows⟩ := hM.rows
    have H7 := Lib.hid (H6.out.up DC.out JC.out hbw)
    have HROWS := Lib.hid hrows
    clear hrows hM
    go_wp2_with fail
    refine (H7.out.records DC.out JC.out).mono ?_
    rintro e w10 ⟨vr, rfl, hown, hj, hb10⟩
    obtain ⟨ra, rc, rfl, hrc, -, hrr⟩ := hown.rows
    rw [HR2.out] at hrr ⊢
    have HRR := Lib.hid hrr
    have HW10 := Lib.hid hb10
    have HJ := Lib.hid hj
    clear hown hrr hb10 hj
    go_wp2_with fail
    refine (refSame8_any ra va _ rc _ vc _ _ _ HRR.out (HROWS.out.up HW10.out) HBY.out HBY.out (by simp) (by simp [maxLen])).mono ?_
    rintro e w11 ⟨rfl, q, rfl⟩
    go_wp2_with fail
    go_ret
    exact ⟨by simp, below_drewN HJ.out.below q⟩
  · rw [e1, e2, show errv ((1 : Nat) : Int) = errD 1 from rfl]
    rw [if_neg (c := 1 ≤ na) (by omega), if_neg (c := 1 ≤ nb) (by omega)] at HR2
    obtain rfl := HMM.out.2 n1
    subst n1 n2
    have HBY : Hid (Byts []) := byts_nil
    have hbw : Below w7.heap.size w7 w7 := Below.refl _ _
    have hrows : RowsOf w7 none 0 [] := ⟨rfl, Or.inl rfl⟩
    have H7 := Lib.hid (H6.out.up DC.out JC.out hbw)
    have HROWS := Lib.hid hrows
    clear hrows
    go_wp2_with fail
    refine (H7.out.records DC.out JC.out).mono ?_
    rintro e w10 ⟨vr, rfl, hown, hj, hb10⟩
    obtain ⟨ra, rc, rfl, hrc, -, hrr⟩ := hown.rows
    rw [HR2.out] at hrr ⊢
    have HRR := Lib.hid hrr
    have HW10 := Lib.hid hb10
    have HJ := Lib.hid hj
    clear hown hrr hb10 hj
    go_wp2_with fail
    refine (refSame8_any ra none _ rc _ 0 _ _ _ HRR.out (HROWS.out.up HW10.out) HBY.out HBY.out (by simp) (by simp [maxLen])).mono ?_
    rintro e w11 ⟨rfl, q, rfl⟩
    go_wp2_with fail
    go_ret
    exact ⟨by simp, below_drewN HJ.out.below q⟩
end
end Go.Proofs.Ytehfbafocbcfnaa
