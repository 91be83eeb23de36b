/- A deed, done with a disk and with its model. -/
import Derived.Test.YtiooeikoaddfcaaDiskL2
namespace Go.Proofs.Ytiooeikoaddfcaa
open Go Go.RowKit
set_option linter.unusedVariables false

theorem pickD_lt (c : Int) (n : Nat) (h : 1 ≤ n) : pickD c n < n := by
  have h0 : (n : Int) ≠ 0 := by omega
  have h1 := Int.emod_nonneg (if c < 0 then -(c + 1) else c) h0
  have h2 := Int.emod_lt_of_pos (if c < 0 then -(c + 1) else c) (show 0 < (n : Int) by omega)
  unfold pickD
  omega

/-- a piece of a row of bytes -/
theorem slice_told {g N P M : Nat} {bs : List Nat} {W : World} (hR : Row g 5 (bs.map b8) W) (hl : bs.length = N) (hPM : P + M ≤ N) :
    ∃ a c, (∀ W', (Instr.slice 29 (.slice (some ⟨g, 0, none⟩) N N) (some (.int .i64 (P : Int))) (some (.int .i64 ((P : Int) + (M : Int)))) none).run Try.prog W' = .ok (.slice a M c) W') ∧ Cells W a M (((bs.drop P).take M).map b8) := by
  have hz : ∀ w, (Go.sizeOf 5).run Try.prog w = .ok 1 w := fun w => by first | exact Try.sizeOf5 w | exact Try.sizeOf5 | simp [Try.sizeOf5]
  have ht' : Try.prog.underlying 29 = some (.slice (Try.prog.elem 29)) := by simp [Program.elem, Try.underlying29]
  have he : Try.prog.elem 29 = 5 := by simp [Program.elem, Try.underlying29]
  have hcells : ∀ j, j < M → W.cell? ⟨g, P + j, none⟩ = some (b8 (((bs.drop P).take M).getD j 0)) := fun j hj => by
    rw [hR.byte (j := P + j) (by omega)]
    simp [List.getD, hj, b8]
  have hlen : (((bs.drop P).take M).map b8).length = M := by simp; omega
  have hget : ∀ j, j < M → (((bs.drop P).take M).map b8).getD j undef = b8 (((bs.drop P).take M).getD j 0) := fun j hj => by
    simp [List.getD, hj, show P + j < bs.length by omega]
  by_cases hc : N = P
  · obtain rfl : M = 0 := by omega
    refine ⟨some ⟨g, 0, none⟩, 0, fun W' => ?_, hlen, Or.inl rfl⟩
    rw [run_slice_lh W' 29 _ _ _ ht' .i64 .i64 _ _ (by omega) (by omega) (by omega), he, hz]
    simp [Result.andThen, sliced, hc]
  · refine ⟨some ⟨g, P, none⟩, N - P, fun W' => ?_, hlen, Or.inr ⟨g, P, rfl, fun j hj => by rw [hcells j hj, hget j hj]⟩⟩
    rw [run_slice_lh W' 29 _ _ _ ht' .i64 .i64 _ _ (by omega) (by omega) (by omega), he, hz]
    by_cases h0 : P = 0
    · subst h0
      simp [Result.andThen, sliced, Addr.add, hc]
    · simp [Result.andThen, sliced, Addr.add, hc, h0]
      try omega

theorem row_deed {g : Nat} {k p m : Int} {ab ac : Option Addr} {nb cb nc cc : Nat} {w : World} (h : Row g 40 [.int .i64 k, .int .i64 p, .int .i64 m, .slice ab nb cb, .slice ac nc cc] w) :
    w.cell? ⟨g, 0, none⟩ = some (.int .i64 k) ∧ w.cell? ⟨g, 1, none⟩ = some (.int .i64 p) ∧ w.cell? ⟨g, 2, none⟩ = some (.int .i64 m) ∧ w.cell? ⟨g, 3, none⟩ = some (.slice ab nb cb) ∧ w.cell? ⟨g, 4, none⟩ = some (.slice ac nc cc) :=
  ⟨h.cell (j := 0) (by simp), h.cell (j := 1) (by simp), h.cell (j := 2) (by simp), h.cell (j := 3) (by simp), h.cell (j := 4) (by simp)⟩

set_option maxRecDepth 100000 in
set_option maxHeartbeats 8000000 in
theorem one7_any (D : Nat → (Nat → Prop) → Addr → Dsk → World → Prop) (DC : Hid (DiskC D)) (n : Nat) (d : Addr) (G : Lies) (s : Dsk) (X : Nat → Prop) (w W : World) (hP : Pair D n d G s s X w W)
    (k p m : Int) (ab : Option Addr) (nb cb : Nat) (bs : List Nat) (ac : Option Addr) (nc cc : Nat) (ps : List Int) (hk : i64d k) (hp : i64d p) (hm : i64d m)
    (hb : Cells w ab nb (bs.map b8)) (hfb : Far X ab nb) (h256 : ∀ b ∈ bs, b < 256) (hcb : nb ≤ cb) (hmb : cb ≤ maxLen) (hnb : nb ≤ 2000) (hc : Elems w ac nc ps) (hfc : Far X ac nc) (hcc : nc ≤ cc) (hnc : nc ≤ 2000) :
    Calls Try.prog 14 #[.pointer (some d), .pointer (some ⟨G.g0, 0, none⟩), .agg #[.int .i64 k, .int .i64 p, .int .i64 m, .slice ab nb cb, .slice ac nc cc]] W
      fun e w' => e = .returned (.bool true) ∧ ∃ s', Pair D n d G s' s' X w w' := by
  have rd := fun (w : World) (j k : Int) => run_eql_code w j k
  obtain ⟨Y, hY, hlt, hsub⟩ := hP.rebox DC.out (Obj.cells #[.int .i64 k, .int .i64 p, .int .i64 m, .slice ab nb cb, .slice ac nc cc] 40)
  have hbox : Below W.heap.size W (W.alloc (Obj.cells #[.int .i64 k, .int .i64 p, .int .i64 m, .slice ab nb cb, .slice ac nc cc] 40)) := (Below.refl _ _).alloc (Nat.le_refl _) _
  have HB := Lib.hid ((hb.only hfb hP.only).upB hbox)
  have HC : Hid (Elems (W.alloc (Obj.cells #[.int .i64 k, .int .i64 p, .int .i64 m, .slice ab nb cb, .slice ac nc cc] 40)) ac nc ps) := elems_only (X := fun _ => False) (elems_only hc hfc hP.only) (fun x hx => Or.inr fun h => h) (Only.of_below hbox)
  have HFB : Hid (Far Y ab nb) := hfb.cells hb hsub
  have HFC : Hid (Far Y ac nc) := hfc.elems hc hsub
  have HR := Lib.hid (Row.new W [.int .i64 k, .int .i64 p, .int .i64 m, .slice ab nb cb, .slice ac nc cc] 40)
  have HN : Hid (¬ Y W.heap.size) := fun h => by have := hlt _ h; omega
  have HO := Lib.hid hP.only
  have HO' : Hid (Only X w (W.alloc (Obj.cells #[.int .i64 k, .int .i64 p, .int .i64 m, .slice ab nb cb, .slice ac nc cc] 40))) := hP.only.trans (Only.of_below hbox)
  have HS : Hid (∀ i, Y i → X i ∨ w.heap.size ≤ i) := hsub
  have HI := Lib.hid (And.intro hk (And.intro hp hm))
  have H256 := Lib.hid h256
  have HMB := Lib.hid hmb
  have HY := Lib.hid hY
  clear hP hY hlt hsub hbox hb hfb hc hfc hk hp hm h256 hmb
  go_enter Try.func14, Try.ntmps14
  go_wp2_with fail
  generalize hW1 : (W.alloc (Obj.cells #[.int .i64 k, .int .i64 p, .int .i64 m, .slice ab nb cb, .slice ac nc cc] 40)) = W1 at HB HC HR HO' HY ⊢
  obtain ⟨c0, c1, c2, c3, c4⟩ := row_deed HR.out
  clear hW1
  refine (pick7_any k 4 W1 HI.out.1 (by omega) (by omega)).mono ?_
  rintro e w' ⟨rfl, rfl⟩
  obtain ⟨q, hq⟩ : ∃ q, pickD k 4 = q := ⟨_, rfl⟩
  have hq4 := pickD_lt k 4 (by omega)
  rw [hq] at hq4 ⊢
  clear hq
  have hq4 : q = 0 ∨ q = 1 ∨ q = 2 ∨ q = 3 := by omega
  rcases hq4 with rfl | rfl | rfl | rfl
  · go_wp2_with fail
    refine (HY.out.write DC.out p ab nb cb bs HI.out.2.1 HB.out HFB.out H256.out hcb HMB.out hnb).mono ?_
    rintro e w2 ⟨k2, s2, rfl, hP2, hor⟩
    have HP2 := Lib.hid hP2
    obtain ⟨c0, c1, c2, c3, c4⟩ := row_deed (HR.out.only hP2.only HN.out)
    clear hP2
    go_wp2_with fail
    refine (HP2.out.there DC.out p nb HI.out.2.1 (by unfold i64d; omega)).mono ?_
    rintro e w3 ⟨rfl, r, rfl⟩
    rcases hor with ⟨ht, rfl, rfl⟩ | ⟨ht, rfl, rfl⟩
    · rw [ht, errv_0]
      have hr : ∃ P : Nat, p = (P : Int) ∧ P + nb ≤ 64 * n := by
        simp only [thereD, Bool.and_eq_true, decide_eq_true_eq] at ht
        exact ⟨p.toNat, by omega, by omega⟩
      obtain ⟨P, rfl, hPn⟩ := hr
      have HP3 := Lib.hid (HP2.out.drewN DC.out r)
      rw [Int.toNat_natCast] at HP3
      clear ht HP2
      go_wp2_with fail
      refine (HP3.out.mwrite DC.out P ab nb cb bs HB.out HFB.out hcb hPn).mono ?_
      rintro e w4 ⟨rfl, hP4⟩
      have HP4 := Lib.hid (hP4.join HO'.out HS.out)
      clear hP4 HP3
      go_wp2_with fail
      go_ret
      exact ⟨rfl, _, HP4.out⟩
    · rw [ht, errv_1]
      have HP4 := Lib.hid ((HP2.out.drewN DC.out r).join HO'.out HS.out)
      clear ht HP2
      go_wp2_with fail
      go_ret
      exact ⟨rfl, _, HP4.out⟩
  · go_wp2_with fail
    refine (HY.out.read DC.out p m HI.out.2.1 HI.out.2.2).mono ?_
    rintro e w2 ⟨hb2, hP2, k2, pa, qa, ca, rfl, hor⟩
    have HP2 := Lib.hid hP2
    have HR2 := Lib.hid (HR.out.only hP2.only HN.out)
    obtain ⟨c0, c1, c2, c3, c4⟩ := row_deed HR2.out
    clear hP2 hb2
    go_wp2_with fail
    refine (HP2.out.there DC.out p m HI.out.2.1 HI.out.2.2).mono ?_
    rintro e w3 ⟨rfl, r, rfl⟩
    rcases hor with ⟨ht, rfl, rfl, hT⟩ | ⟨ht, rfl, rfl⟩
    · rw [ht, errv_0]
      have HP3 := Lib.hid (HP2.out.drewN DC.out r)
      have HP4 := Lib.hid (HP3.out.join HO'.out HS.out)
      have hPM : ∃ P M : Nat, p = (P : Int) ∧ m = (M : Int) ∧ P + M ≤ 64 * n := by
        simp only [thereD, Bool.and_eq_true, decide_eq_true_eq] at ht
        exact ⟨p.toNat, m.toNat, by omega, by omega, by omega⟩
      obtain ⟨P, M, rfl, rfl, hPM⟩ := hPM
      rw [Int.toNat_natCast, Int.toNat_natCast] at hT
      have hok := HP3.out.md.ok
      have hn := hok.2.2.2
      have hlq : ((s.nw.drop P).take M).length = M := by simp; omega
      obtain ⟨sa, sc, hsl, hsc⟩ := slice_told (P := P) (M := M) HP3.out.md.r2 hok.2.2.1 hPM
      have hs1 : IntKind.i64.wrap ((P : Int) + (M : Int)) = (P : Int) + (M : Int) := IntWalk.i64_in _ (by omega)
      have hst : ((strB ((s.nw.drop P).take M)).toList == (strB ((s.nw.drop P).take M)).toList) = true := strB_same _
      have HT1 : Hid (∀ W', Below w2.heap.size w2 W' → (convert 29 9 (.slice pa M ca)).run Try.prog W' = .ok (.string (strB ((s.nw.drop P).take M))) W') := fun W' h => by
        have := hT W' h
        rwa [hlq] at this
      have HT2 : Hid (∀ W', Below (w2.drewN r).heap.size (w2.drewN r) W' → (convert 29 9 (.slice sa M sc)).run Try.prog W' = .ok (.string (strB ((s.nw.drop P).take M))) W') := fun W' h => run_str_row (hsc.upB h)
      obtain ⟨m0, m1, m2⟩ := HP3.out.md.cells
      have HM : Hid ((w2.drewN r).cell? ⟨G.g0, 1, none⟩ = some (.slice (some ⟨G.g2, 0, none⟩) (64 * n) (64 * n))) := m1
      rw [Int.toNat_natCast, Int.toNat_natCast, hlq]
      clear ht hT hok HP2 hsc m0 m2 hlq
      go_wp2_with fail
      go_region_held3 (fun w' => (convert 29 9 (.slice pa M ca)).run Try.prog w' = .ok (.string (strB ((s.nw.drop P).take M))) w' ∧ (convert 29 9 (.slice sa M sc)).run Try.prog w' = .ok (.string (strB ((s.nw.drop P).take M))) w' ∧
          w'.cell? ⟨G.g0, 1, none⟩ = some (.slice (some ⟨G.g2, 0, none⟩) (64 * n) (64 * n)) ∧ w'.cell? ⟨W.heap.size, 1, none⟩ = some (.int .i64 (P : Int)) ∧ w'.cell? ⟨W.heap.size, 2, none⟩ = some (.int .i64 (M : Int)))
        (first | exact ⟨HT1.out _ (Below.drew (below_drewN (Below.refl _ _) r)), HT2.out _ (Below.drew (Below.refl _ _)), HM.out, c1, c2⟩ | assumption)
        (fail)
      go_wp2_with fail
      go_ret
      exact ⟨rfl, _, HP4.out.drewN DC.out 1⟩
    · rw [ht, errv_1]
      have HP4 := Lib.hid ((HP2.out.drewN DC.out r).join HO'.out HS.out)
      clear ht HP2
      go_wp2_with fail
      go_ret
      exact ⟨rfl, _, HP4.out⟩
  · go_wp2_with fail
    refine (HY.out.sync DC.out).mono ?_
    rintro e w2 ⟨rfl, hP2⟩
    have HP2 := Lib.hid hP2
    clear hP2
    go_wp2_with fail
    refine (HP2.out.msync DC.out).mono ?_
    rintro e w3 ⟨rfl, hP3⟩
    have HP4 := Lib.hid (hP3.join HO'.out HS.out)
    clear hP3 HP2
    go_wp2_with fail
    go_ret
    exact ⟨rfl, _, HP4.out⟩
  · go_wp2_with fail
    refine (HY.out.crash DC.out ac nc cc ps HC.out HFC.out hcc hnc).mono ?_
    rintro e w2 ⟨rfl, hP2⟩
    have HP2 := Lib.hid hP2
    obtain ⟨c0, c1, c2, c3, c4⟩ := row_deed (HR.out.only hP2.only HN.out)
    clear hP2
    go_wp2_with fail
    refine (HP2.out.mcrash DC.out ac nc cc ps HC.out HFC.out hcc hnc).mono ?_
    rintro e w3 ⟨rfl, hP3⟩
    have HP4 := Lib.hid (hP3.join HO'.out HS.out)
    clear hP3 HP2
    go_wp2_with fail
    go_ret
    exact ⟨rfl, _, HP4.out⟩
end Go.Proofs.Ytiooeikoaddfcaa
