/- The walk of DiskPlays: whatever is done, one behind the other, a disk answers as its model does. -/
import Derived.Test.YtiooeikoaddfcaaDiskOne
namespace Go.Proofs.Ytiooeikoaddfcaa
open Go Go.RowKit
set_option linter.unusedVariables false

/-- a deed as it came in -/
structure DeedV where
  (k p m : Int) (ab : Option Addr) (nb cb : Nat) (bs : List Nat) (ac : Option Addr) (nc cc : Nat) (ps : List Int)
structure DeedV.Ok (v : DeedV) (w : World) : Prop where
  hk : i64d v.k
  hp : i64d v.p
  hm : i64d v.m
  hb : Cells w v.ab v.nb (v.bs.map b8)
  h256 : ∀ b ∈ v.bs, b < 256
  hcb : v.nb ≤ v.cb
  hmb : v.cb ≤ maxLen
  hc : Elems w v.ac v.nc v.ps
  hcc : v.nc ≤ v.cc
/-- where the j-th deed lies -/
structure DeedAt (w : World) (b o : Nat) (v : DeedV) : Prop where
  c0 : w.cell? ⟨b, o, none⟩ = some (.int .i64 v.k)
  c1 : w.cell? ⟨b, o + 1, none⟩ = some (.int .i64 v.p)
  c2 : w.cell? ⟨b, o + 2, none⟩ = some (.int .i64 v.m)
  c3 : w.cell? ⟨b, o + 3, none⟩ = some (.slice v.ab v.nb v.cb)
  c4 : w.cell? ⟨b, o + 4, none⟩ = some (.slice v.ac v.nc v.cc)
theorem DeedAt.up {w W : World} {b o : Nat} {v : DeedV} (h : DeedAt w b o v) (hb : Below w.heap.size w W) : DeedAt W b o v :=
  ⟨by rw [hb.cell (p := ⟨b, o, none⟩) (cell_lt h.c0)]; exact h.c0, by rw [hb.cell (p := ⟨b, o + 1, none⟩) (cell_lt h.c1)]; exact h.c1, by rw [hb.cell (p := ⟨b, o + 2, none⟩) (cell_lt h.c2)]; exact h.c2,
    by rw [hb.cell (p := ⟨b, o + 3, none⟩) (cell_lt h.c3)]; exact h.c3, by rw [hb.cell (p := ⟨b, o + 4, none⟩) (cell_lt h.c4)]; exact h.c4⟩
/-- a script as it came in -/
def Deeds (w : World) (a : Option Addr) (len : Nat) : Prop := len = 0 ∨ ∃ b o, a = some ⟨b, o, none⟩ ∧ ∀ j, j < len → ∃ v : DeedV, DeedAt w b (o + j * 5) v ∧ v.Ok w

set_option maxRecDepth 100000 in
set_option maxHeartbeats 8000000 in
theorem diskPlays_walk (D : Nat → (Nat → Prop) → Addr → Dsk → World → Prop) (DC : Hid (DiskC D)) (b : Int) (a : Option Addr) (len cap : Nat) (w : World) (hb : i64d b) (hD : Deeds w a len) (hl : len ≤ cap) (hm : cap ≤ maxLen) :
    Calls Try.prog 4 #[.int .i64 b, .slice a len cap] w fun e w' => e = .returned (.bool true) ∧ Below w.heap.size w w' := by
  have rd := fun (w : World) (k : Int) => run_eql_code w k k
  have HI := Lib.hid hb
  have HD : Hid (Deeds w a len) := hD
  have hml : (len : Int) ≤ 9223372036854775807 := by unfold maxLen at hm; omega
  clear hb hD hm
  obtain ⟨n, hn, hn1⟩ : ∃ n, pickD b 8 = n ∧ n < 8 := ⟨_, rfl, pickD_lt b 8 (by omega)⟩
  go_enter Try.func4, Try.ntmps4
  go_wp2_with fail
  refine (up07_any D DC _).mono ?_
  rintro e w1 ⟨rfl, hb1⟩
  have HB1 := Lib.hid hb1
  clear hb1
  go_wp2_with fail
  refine (pick7_any b 8 w1 HI.out (by omega) (by omega)).mono ?_
  rintro e w' ⟨rfl, hw⟩
  subst w'
  rw [hn]
  clear hn
  obtain ⟨N, hN⟩ : ∃ N, n + 1 = N := ⟨_, rfl⟩
  have s1 : IntKind.i64.wrap (1 + (n : Int)) = (N : Int) := by rw [IntWalk.i64_in _ (by omega)]; omega
  have hN1 : 1 ≤ N := by omega
  have hN2 : N ≤ 8 := by omega
  clear hN
  go_wp2_with fail
  refine (DC.out.new (N : Int) _ (by unfold i64d; omega)).mono ?_
  rintro e w2 ⟨hb2, ⟨hl1, hu, d, F, rfl, hD2, hF⟩ | ⟨hno, rfl⟩⟩
  rotate_left
  · omega
  rw [Int.toNat_natCast] at hD2
  have HD2 := Lib.hid hD2
  have HF := Lib.hid hF
  have HB2 := Lib.hid (HB1.out.trans (hb2.mono HB1.out.size))
  have HF0 : Hid (∀ k, F k → w.heap.size ≤ k) := fun k hk => Nat.le_trans HB1.out.size (hF k hk)
  clear hb2 hD2 hF hl1 hu
  go_wp2_with fail
  refine (refNew7_any N (by omega) _).mono ?_
  rintro e w3 ⟨G, rfl, hM, hG, hb3⟩
  have HP : Hid (Pair D N d G (Dsk.zero N) (Dsk.zero N) (fun _ => False) w w3) :=
    ⟨⟨F, DC.out.up HD2.out hb3, fun k hk => Or.inr (HF0.out k hk), fun k hk hg => by have := DC.out.lt HD2.out k hk; have := hG k hg; omega⟩, hM, fun k hk => Or.inr (Nat.le_trans HB2.out.size (hG k hk)), Only.of_below (HB2.out.trans (hb3.mono HB2.out.size))⟩
  clear hM hG hb3 HD2 HF HF0 HB2 HB1
  go_wp2_with fail
  go_loopw [9, 10] (fun i v wr => ∃ (j : Nat) (s : Dsk), j ≤ len ∧ j ≤ 100 ∧ i = .int .i64 (j : Int) ∧ Hid (Pair D N d G s s (fun _ => False) w wr)) (fun i _ _ => 100 - (RowKit.intOf i).toNat)
  case atStart => exact ⟨0, _, by omega, by omega, rfl, HP⟩
  case round =>
    obtain ⟨j, s, hj, hj2, rfl, hS⟩ := hrel
    by_cases hin : j < len ∧ j < 100
    · obtain ⟨hlt, hlt2⟩ := hin
      · obtain ⟨bb, oo, rfl, hd⟩ := HD.out.resolve_left (by omega)
        obtain ⟨v, hat, hok⟩ := hd j hlt
        have HO := Lib.hid hok
        have HA := Lib.hid (hat.up hS.out.below)
        obtain ⟨c0, c1, c2, c3, c4⟩ := HA.out
        have t6 : (j : Int) < (len : Int) := by omega
        have t7 : (0 : Int) ≤ (j : Int) := by omega
        have t8 : (j : Int) < 100 := by omega
        clear hd hat hok
        by_cases hnb : v.nb ≤ 2000
        · by_cases hnc : v.nc ≤ 2000
          · have g1 : (v.nb : Int) ≤ 2000 := by omega
            have g2 : (v.nc : Int) ≤ 2000 := by omega
            go_wp2_with fail
            refine (one7_any D DC N d G s (fun _ => False) w _ hS.out v.k v.p v.m v.ab v.nb v.cb v.bs v.ac v.nc v.cc v.ps HO.out.hk HO.out.hp HO.out.hm HO.out.hb (fun _ _ => Or.inr fun h => h) HO.out.h256 HO.out.hcb HO.out.hmb hnb HO.out.hc (fun _ _ => Or.inr fun h => h) HO.out.hcc hnc).mono ?_
            rintro e w4 ⟨rfl, s', hP4⟩
            have HP4 := Lib.hid hP4
            clear hP4 hS HA HO c0 c1 c2 c3 c4
            go_wp2_with fail
            refine (HP4.out.dirty DC.out).mono ?_
            rintro e w5 ⟨rfl, hP5⟩
            have HP5 := Lib.hid hP5
            clear hP5 HP4
            go_wp2_with fail
            refine (HP5.out.many DC.out).mono ?_
            rintro e w6 ⟨rfl, hP6⟩
            have HP6 := Lib.hid hP6
            clear hP6 HP5
            have s9 : IntKind.i64.wrap ((j : Int) + 1) = (j : Int) + 1 := IntWalk.i64_in _ (by omega)
            go_wp2_with fail
            exact ⟨⟨j + 1, s', by omega, by omega, by go_num, HP6⟩, by simp [RowKit.intOf]; omega⟩
          · have g1 : (v.nb : Int) ≤ 2000 := by omega
            have g2 : (2000 : Int) < (v.nc : Int) := by omega
            go_wp2_with fail
            go_ret
            exact ⟨rfl, hS.out.below⟩
        · have g1 : (2000 : Int) < (v.nb : Int) := by omega
          go_wp2_with fail
          go_ret
          exact ⟨rfl, hS.out.below⟩
    · have hout : (¬ (j : Int) < (len : Int)) ∨ ((j : Int) < (len : Int) ∧ ¬ (j : Int) < 100) := by omega
      clear hin
      have hall : (s.nw.drop (0 : Int).toNat).take (64 * (N : Int)).toNat = s.nw := by
        have := hS.out.md.ok.2.2.1
        rw [show (0 : Int).toNat = 0 from rfl, List.drop_zero, List.take_of_length_le (by omega)]
      have HALL := Lib.hid hall
      have HT0 : Hid (thereD N 0 (64 * (N : Int)) = true) := by show _ = true; simp [thereD]; omega
      clear hall
      rcases hout with t6 | ⟨t6, t7⟩
      all_goals
        go_wp2_with fail
        refine (hS.out.read DC.out 0 (64 * (N : Int)) (by unfold i64d; omega) (by unfold i64d; omega)).mono ?_
        rintro e w4 ⟨-, hP4, k4, pa, qa, ca, rfl, ⟨-, rfl, rfl, hT⟩ | ⟨h, -⟩⟩
        rotate_left
        · rw [HT0.out] at h; cases h
        rw [HALL.out] at hT ⊢
        have hN64 := hP4.md.ok.2.2.1
        rw [hN64]
        have HP4 := Lib.hid hP4
        have HT1 : Hid (∀ W', Below w4.heap.size w4 W' → (convert 29 9 (.slice pa (64 * N) ca)).run Try.prog W' = .ok (.string (strB s.nw)) W') := fun W' h => by
          have := hT W' h
          rwa [hN64] at this
        have HT2 : Hid (∀ W', Below w4.heap.size w4 W' → (convert 29 9 (.slice (some ⟨G.g2, 0, none⟩) (64 * N) (64 * N))).run Try.prog W' = .ok (.string (strB s.nw)) W') := fun W' h => by
          refine run_str_row (Cells.upB ⟨by simpa using hN64, Or.inr ⟨_, 0, rfl, fun j hj => ?_⟩⟩ h)
          rw [Nat.zero_add, HP4.out.md.r2.byte (by omega)]
          simp [List.getD, b8, show j < s.nw.length by omega]
        obtain ⟨m0, m1, m2⟩ := HP4.out.md.cells
        have HM : Hid (w4.cell? ⟨G.g0, 1, none⟩ = some (.slice (some ⟨G.g2, 0, none⟩) (64 * N) (64 * N))) := m1
        have hst : ((strB s.nw).toList == (strB s.nw).toList) = true := strB_same _
        rw [errv_0]
        clear hT hP4 hN64 m0 m2
        go_wp2_with fail
        go_region_held3 (fun w' => (convert 29 9 (.slice pa (64 * N) ca)).run Try.prog w' = .ok (.string (strB s.nw)) w' ∧ (convert 29 9 (.slice (some ⟨G.g2, 0, none⟩) (64 * N) (64 * N))).run Try.prog w' = .ok (.string (strB s.nw)) w' ∧
            w'.cell? ⟨G.g0, 1, none⟩ = some (.slice (some ⟨G.g2, 0, none⟩) (64 * N) (64 * N)))
          (first | exact ⟨HT1.out _ (Below.drew (Below.refl _ _)), HT2.out _ (Below.drew (Below.refl _ _)), HM.out⟩ | assumption)
          (fail)
        go_wp2_with fail
        go_ret
        exact ⟨rfl, (HP4.out.drewN DC.out 1).below⟩
end Go.Proofs.Ytiooeikoaddfcaa
