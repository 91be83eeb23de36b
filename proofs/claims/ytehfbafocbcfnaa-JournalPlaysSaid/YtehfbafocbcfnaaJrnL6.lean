/- The walk of JournalPlays: whatever is done, one behind the other, a disk and its journal answer as their models do. -/
import Derived.Test.YtehfbafocbcfnaaJrnP3
namespace Go.Proofs.Ytehfbafocbcfnaa
open Go Go.RowKit
set_option linter.unusedVariables false

/-- a deed of layer 8 as it came in -/
structure DeedW where
  (k st : Int) (ab : Option Addr) (nb cb : Nat) (bs : List Nat) (ap : Option Addr) (np cp : Nat) (ps : List Int)
structure DeedW.Ok (v : DeedW) (w : World) : Prop where
  hk : i64d v.k
  hs : i64d v.st
  hb : Cells w v.ab v.nb (v.bs.map b8)
  h256 : ∀ b ∈ v.bs, b < 256
  hcb : v.nb ≤ v.cb
  hmb : v.cb ≤ maxLen
  hp : Elems w v.ap v.np v.ps
  hcp : v.np ≤ v.cp
  hmp : v.cp ≤ maxLen
structure DeedAt8 (w : World) (b o : Nat) (v : DeedW) : Prop where
  c0 : w.cell? ⟨b, o, none⟩ = some (.int .i64 v.k)
  c1 : w.cell? ⟨b, o + 1, none⟩ = some (.int .i64 v.st)
  c2 : w.cell? ⟨b, o + 2, none⟩ = some (.slice v.ab v.nb v.cb)
  c3 : w.cell? ⟨b, o + 3, none⟩ = some (.slice v.ap v.np v.cp)
theorem DeedAt8.up {w W : World} {b o : Nat} {v : DeedW} (h : DeedAt8 w b o v) (hb : Below w.heap.size w W) : DeedAt8 W b o v :=
  ⟨by rw [hb.cell (p := ⟨b, o, none⟩) (cell_lt h.c0)]; exact h.c0, by rw [hb.cell (p := ⟨b, o + 1, none⟩) (cell_lt h.c1)]; exact h.c1, by rw [hb.cell (p := ⟨b, o + 2, none⟩) (cell_lt h.c2)]; exact h.c2,
    by rw [hb.cell (p := ⟨b, o + 3, none⟩) (cell_lt h.c3)]; exact h.c3⟩
def Deeds8 (w : World) (a : Option Addr) (len : Nat) : Prop := len = 0 ∨ ∃ b o, a = some ⟨b, o, none⟩ ∧ ∀ j, j < len → ∃ v : DeedW, DeedAt8 w b (o + j * 4) v ∧ v.Ok w

section
variable {D : Nat → (Nat → Prop) → Addr → Dsk → World → Prop} {J : Nat → (Nat → Prop) → Addr → Addr → Jr → World → Prop}

theorem build_pair (a b : Option Addr) (w : World) : (Instr.build 67 #[(0, .pointer a), (2, .pointer b)]).run Try.prog w = .ok (.agg #[.pointer a, .pointer none, .pointer b, .pointer none]) w := run_build w 67 _ _ (by kernel_rfl)

def Made8 (D : Nat → (Nat → Prop) → Addr → Dsk → World → Prop) (J : Nat → (Nat → Prop) → Addr → Addr → Jr → World → Prop) (n : Nat) (w : World) (e : Ending) (w' : World) : Prop :=
  ∃ g d G j s r Kb Z v vs K, e = .returned (.pointer (some ⟨g, 0, none⟩)) ∧ PJ D J n d j s r s r G Kb Z v vs g K w w' ∧ Inv n (64 * n) s r

set_option maxRecDepth 100000 in
set_option maxHeartbeats 8000000 in
theorem made8_any (DC : Hid (DiskC D)) (JC : Hid (JrnC D J)) (n : Nat) (hn : 1 ≤ n) (hn2 : n ≤ 30) (w : World) :
    Calls Try.prog 10 #[.int .i64 (n : Int)] w (Made8 D J n w) := by
  have rb := build_pair
  go_enter Try.func10, Try.ntmps10
  go_wp2_with fail
  refine (DC.out.new (n : Int) _ (by unfold i64d; omega)).mono ?_
  rintro e w1 ⟨hb1, ⟨-, -, d, F, rfl, hD, hF⟩ | ⟨h, -⟩⟩
  rotate_left
  · omega
  rw [Int.toNat_natCast] at hD
  have HD : Hid (DH D n d (Dsk.zero n) (fun _ => False) w w1) := ⟨⟨F, hD, hF, fun _ _ h => h⟩, fun _ h => h.elim, hb1⟩
  clear hD hF hb1
  go_wp2_with fail
  refine (refNew7_any n (by omega) _).mono ?_
  rintro e w2 ⟨G, rfl, hM, hG, hb2⟩
  have hb3 : Below w2.heap.size w2 (w2.alloc (Obj.cells #[.pointer (some d), .pointer none, .pointer (some ⟨G.g0, 0, none⟩), .pointer none] 67)) := (Below.refl _ _).alloc (Nat.le_refl _) _
  have hsz : (w2.alloc (Obj.cells #[.pointer (some d), .pointer none, .pointer (some ⟨G.g0, 0, none⟩), .pointer none] 67)).heap.size = w2.heap.size + 1 := World.size_alloc ..
  have HP : Hid (PD D n d (Dsk.zero n) (Dsk.zero n) G w2.heap.size none none (fun k => w1.heap.size ≤ k ∧ k ≤ w2.heap.size) w (w2.alloc (Obj.cells #[.pointer (some d), .pointer none, .pointer (some ⟨G.g0, 0, none⟩), .pointer none] 67))) :=
    ⟨HD.out.own DC.out (Only.of_below (hb2.trans (hb3.mono hb2.size))) fun k hk => Or.inr hk.1, hM.up hb3, Row.new w2 _ _, fun k hk => ⟨hG k hk, Nat.le_of_lt (hM.lt k hk)⟩, ⟨hb2.size, Nat.le_refl _⟩, fun hg => by have := hM.lt _ hg; omega, fun k hk => by omega⟩
  have hnl : (Dsk.zero n).nw.length = 64 * n := hM.ok.2.2.1
  have HI := Lib.hid (Inv.open' (Dsk.byt_zero n) hnl)
  clear hM hG hb2 hb3 hsz hnl HD
  go_wp2_with fail
  refine (opened8_any DC JC none none HP.out (Dsk.byt_zero n)).mono ?_
  rintro e w3 ⟨rfl, j, Kb, Z, v, vs, K, hp⟩
  have HPJ := Lib.hid hp
  clear hp HP
  go_wp2_with fail
  go_ret
  exact ⟨_, d, G, j, _, _, Kb, Z, v, vs, K, rfl, HPJ.out, HI.out⟩

set_option maxRecDepth 100000 in
set_option maxHeartbeats 16000000 in
theorem journalPlays_walk (DC : Hid (DiskC D)) (JC : Hid (JrnC D J)) (blk : Int) (a : Option Addr) (len cap : Nat) (w : World) (hb : i64d blk) (hD : Deeds8 w a len) (hc : len ≤ cap) (hm : cap ≤ maxLen) :
    Calls Try.prog 3 #[.int .i64 blk, .slice a len cap] w fun e w' => e = .returned (.bool true) ∧ Below w.heap.size w w' := by
  have HI := Lib.hid hb
  have HD := Lib.hid hD
  have hml : (len : Int) ≤ 9223372036854775807 := by unfold maxLen at hm; omega
  clear hb hD hm
  obtain ⟨p, hp, hp1⟩ : ∃ p, pickD blk 30 = p ∧ p < 30 := ⟨_, rfl, pickD_lt blk 30 (by omega)⟩
  go_enter Try.func3, Try.ntmps3
  go_wp2_with fail
  refine (up08_any DC JC _).mono ?_
  rintro e w1 ⟨rfl, hb1⟩
  have HB1 := Lib.hid hb1
  clear hb1
  go_wp2_with fail
  refine (pick8_any blk 30 w1 HI.out (by omega) (by omega)).mono ?_
  rintro e w' ⟨rfl, hw⟩
  subst w'
  rw [hp]
  clear hp
  obtain ⟨n, hn⟩ : ∃ n, p + 1 = n := ⟨_, rfl⟩
  have s1 : IntKind.i64.wrap (1 + (p : Int)) = (n : Int) := by rw [IntWalk.i64_in _ (by omega)]; omega
  have hn1 : 1 ≤ n := by omega
  have hn2 : n ≤ 30 := by omega
  clear hn
  go_wp2_with fail
  refine (made8_any DC JC n hn1 hn2 w1).mono ?_
  rintro e w2 hmade
  obtain ⟨g, d, G, j, s, r, Kb, Z, v, vs, K, rfl, hpj, hinv⟩ := hmade
  have HP : Hid (∃ j s r Kb Z v vs K, PJ D J n d j s r s r G Kb Z v vs g K w1 w2 ∧ Inv n (64 * n + 0) s r) := ⟨j, s, r, Kb, Z, v, vs, K, hpj, hinv⟩
  clear hpj hinv
  go_wp2_with fail
  go_loopw [7] (fun i wr => ∃ (q : Nat), q ≤ len ∧ q ≤ 30 ∧ i = .int .i64 (q : Int) ∧ Hid (∃ j s r Kb Z v vs K, PJ D J n d j s r s r G Kb Z v vs g K w1 wr ∧ Inv n (64 * n + q) s r)) (fun i _ => 30 - (RowKit.intOf i).toNat)
  case atStart => exact ⟨0, by omega, by omega, rfl, HP⟩
  case round =>
    obtain ⟨q, hq, hq2, rfl, hS⟩ := hrel
    obtain ⟨j, s, r, Kb, Z, v, vs, K, hpj, hinv⟩ := hS.out
    have HPJ := Lib.hid hpj
    have HIN := Lib.hid hinv
    have HBW : Hid (Below w.heap.size w wr) := HB1.out.trans (hpj.jh.below.mono HB1.out.size)
    clear hpj hinv hS
    by_cases hin : q < len ∧ q < 30
    · obtain ⟨hlt, hlt2⟩ := hin
      obtain ⟨bb, oo, rfl, hd⟩ := HD.out.resolve_left (by omega)
      obtain ⟨x, hat, hok⟩ := hd q hlt
      have HO := Lib.hid hok
      have HA := Lib.hid (hat.up HBW.out)
      obtain ⟨c0, c1, c2, c3⟩ := HA.out
      have t6 : (q : Int) < (len : Int) := by omega
      have t7 : (0 : Int) ≤ (q : Int) := by omega
      have t8 : (q : Int) < 30 := by omega
      have hnb1 : (x.nb : Int) ≤ 9223372036854775807 := by have h1 := HO.out.hcb; have h2 := HO.out.hmb; unfold maxLen at h2; omega
      have hnp1 : (x.np : Int) ≤ 9223372036854775807 := by have h1 := HO.out.hcp; have h2 := HO.out.hmp; unfold maxLen at h2; omega
      clear hd hat hok
      by_cases hnb : x.nb ≤ 2000
      · by_cases hnp : x.np ≤ 2000
        · have g1 : (x.nb : Int) ≤ 2000 := by omega
          have g2 : (x.np : Int) ≤ 2000 := by omega
          have HE : Hid (Elems w1 x.ap x.np x.ps) := by
            have hp := HO.out.hp
            refine ⟨hp.1, hp.2.1, ?_⟩
            rcases hp.2.2 with h0 | ⟨b, off, e, hcc⟩
            · exact Or.inl h0
            · by_cases h0 : x.np = 0
              · exact Or.inl h0
              · exact Or.inr ⟨b, off, e, fun i hi => by rw [HB1.out.cell (p := ⟨b, off + i, none⟩) (cell_lt (hcc i hi))]; exact hcc i hi⟩
          go_wp2_with fail
          refine (one8_any DC JC HPJ.out (64 * n + q) HIN.out (by omega) (by omega) x.k x.st x.ab x.nb x.cb x.bs x.ap x.np x.cp x.ps HO.out.hk HO.out.hs (HO.out.hb.upB HB1.out) HO.out.h256 HO.out.hcb HO.out.hmb HE.out HO.out.hcp hnp).mono ?_
          rintro e w4 hdone
          obtain ⟨rfl, j', s', r', Kb', Z', v', vs', K', hpj, hinv⟩ := hdone
          have HPJ2 := Lib.hid hpj
          have HIN2 := Lib.hid hinv
          clear hpj hinv HPJ HIN HA c0 c1 c2 c3 HE HO
          go_wp2_with fail
          refine (alike8_any DC JC HPJ2.out hn1 HIN2.out.2.1 HIN2.out.2.2.1 (by have := HIN2.out.2.2.2; omega)).mono ?_
          rintro e w5 ⟨rfl, hb5⟩
          have HP3 : Hid (∃ j s r Kb Z v vs K, PJ D J n d j s r s r G Kb Z v vs g K w1 w5 ∧ Inv n (64 * n + (q + 1)) s r) := ⟨j', s', r', Kb', Z', v', vs', K', HPJ2.out.up DC.out JC.out hb5, HIN2.out.le (by omega)⟩
          have s9 : IntKind.i64.wrap ((q : Int) + 1) = (q : Int) + 1 := IntWalk.i64_in _ (by omega)
          clear hb5 HPJ2 HIN2
          go_wp2_with fail
          exact ⟨⟨q + 1, by omega, by omega, by go_num, HP3⟩, by simp [RowKit.intOf]; omega⟩
        · have g1 : (x.nb : Int) ≤ 2000 := by omega
          have g2 : (2000 : Int) < (x.np : Int) := by omega
          go_wp2_with fail
          go_ret
          exact ⟨rfl, HBW.out⟩
      · have g1 : (2000 : Int) < (x.nb : Int) := by omega
        go_wp2_with fail
        go_ret
        exact ⟨rfl, HBW.out⟩
    · have hout : (¬ (q : Int) < (len : Int)) ∨ ((q : Int) < (len : Int) ∧ ¬ (q : Int) < 30) := by omega
      clear hin
      rcases hout with t6 | ⟨t6, t7⟩
      all_goals
        go_wp2_with fail
        go_ret
        exact ⟨rfl, HBW.out⟩
end
end Go.Proofs.Ytehfbafocbcfnaa
