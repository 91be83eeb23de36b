/- What stands of blocks is kept ahead of their being written. -/
import Derived.Test.YtehfbafocbcfnaaDskAt
import Derived.StillTailTactics
namespace Go.Proofs.Ytehfbafocbcfnaa
open Go Go.RowKit Go.Maps
set_option linter.unusedVariables false

theorem set_same {l : List Bool} {i : Nat} (h : l.getD i false = true) : l.set i true = l := by
  refine getD_ext false (by simp) fun j => ?_
  rw [set_get]
  split
  · rename_i e; rw [← e.1, h]
  · rfl

/-- the next place -/
def nextP (p j : Nat) : Nat := if j = 0 then p else 64 * (p / 64 + j)

theorem info_block : (Try.prog.info? 87).map (·.size) = some 64 := by kernel_rfl

theorem aggB_of (v : Value) (z : DataW (List Nat)) (ps : List MemPlace) (h : RB v = some (z, ps)) : ∃ bs : List Nat, bs.length = 64 ∧ v = .agg (bs.map b8).toArray ∧ z = .held bs := by
  obtain ⟨bs, h1, h2, h3⟩ := RB_inv h
  exact ⟨bs, h1, h2, by simpa using congrArg Prod.fst h3⟩

theorem zero_block : ∀ w, (zeroValue 87).run Try.prog w = .ok (.agg (List.replicate 64 (Value.int .u8 0)).toArray) w := fun w => (Try.zeroValue87 w).trans rfl

theorem run_arrayAt64 (h r l c : Nat) (hl : ¬ l < 64) (w : World) : (Instr.arrayAt 87 (.slice (some ⟨h, r, none⟩) l c)).run Try.prog w = .ok (.pointer (some ⟨h, r, none⟩)) w := by
  simp [Instr.arrayAt, Sem.run_bind, run_underlying Try.underlying87, Result.andThen, hl]

theorem block_range {W : World} {h n q : Nat} {l : List Nat} (hr : Row h 5 (l.map b8) W) (hl : l.length = 64 * n) (hq : q < n) : W.rangeAt h (64 * q) ((blk l q).map b8) := fun j v hv => by
  have hj : j < 64 := by
    have := (List.getElem?_eq_some_iff.1 hv).1
    rwa [List.length_map, blk_len hl hq] at this
  have hx : 64 * q + j < l.length := by omega
  rw [hr.cell (j := 64 * q + j) (by simpa using hx)]
  rw [List.getElem?_map] at hv
  have h1 := blk_get l q j hj
  rw [List.getD_eq_getElem?_getD] at h1
  rw [List.getElem?_eq_getElem (by rw [blk_len hl hq]; exact hj)] at hv h1
  simp only [Option.getD_some] at h1
  simp only [Option.map_some, Option.some.injEq] at hv
  rw [← hv, h1]
  simp [List.getD_eq_getElem?_getD, hx]

set_option maxHeartbeats 8000000 in
set_option maxRecDepth 100000 in
theorem stand_any {n g h m : Nat} {s : Dsk} (p L : Nat) (w : World) (H : DAt n g h m s w) (hp : p + L ≤ 64 * n) :
    Calls Try.prog 39 #[.pointer (some ⟨g, 0, none⟩), .int .i64 (p : Int), .int .i64 ((p + L : Nat) : Int)] w fun e w' => e = .returned (.tuple #[]) ∧ Only (fun k => k = m) w w' ∧ ∃ k D, w'.ownsMap Try.prog 3 RB m k D ∧ MapIs D n s.st (dirN s.di p L) := by
  have hn := H.ok.2.2.2
  obtain ⟨E, hE⟩ : ∃ E, p + L = E := ⟨_, rfl⟩
  rw [hE] at hp ⊢
  have HE := Lib.hid hE
  have HH := Lib.hid H
  clear hE H
  go_enter Try.func39, Try.ntmps39
  go_wp2_with fail
  go_loopw [1] (fun i wr => ∃ (j : Nat), i = .int .i64 (nextP p j : Int) ∧ Hid (0 < j → 0 < L ∧ 64 * (p / 64 + j) < p + L + 64) ∧ Hid (∃ k D, wr.ownsMap Try.prog 3 RB m k D ∧ MapIs D n s.st (dirB s.di (p / 64) j)) ∧ Hid (Only (fun k => k = m) w wr)) (fun i _ => E - (RowKit.intOf i).toNat)
  case atStart => exact ⟨0, rfl, fun h => by omega, HH.out.mp, Only.refl _ _⟩
  case round =>
    obtain ⟨j, rfl, hj, hM, hO⟩ := hrel
    obtain ⟨a, ha⟩ : ∃ a, nextP p j = a := ⟨_, rfl⟩
    rw [ha]
    obtain ⟨q, hq⟩ : ∃ q, p / 64 + j = q := ⟨_, rfl⟩
    have haq : a / 64 = q ∧ nextP p (j + 1) = 64 * (q + 1) ∧ p ≤ a ∧ a ≤ E + 64 := by
      have hE := HE.out
      have hJ := hj.out
      unfold nextP at ha ⊢
      by_cases h0 : j = 0
      · subst h0; rw [if_pos rfl] at ha; rw [if_neg (by omega)]; omega
      · rw [if_neg h0] at ha; rw [if_neg (by omega)]; omega
    obtain ⟨hq1, hq2, hq3, hq4⟩ := haq
    have HA := Lib.hid ha
    have HQ := Lib.hid hq
    have HQ2 := Lib.hid hq2
    have HQ1 := Lib.hid hq1
    clear ha hq hq2 hq1
    have HT0 : Hid (DAt n g h m s w) := HH
    by_cases hlt : a < E
    · have hqn : q < n := by have := HQ1.out; omega
      obtain ⟨k, D, hown, hmap⟩ := hM.out
      have HOW := Lib.hid (ownsMap_exact hown)
      have HMP := Lib.hid hmap
      have hsz : Maps.size D ≤ 1024 := by
        have h1 := hmap.size hown Try.underlying3
        have h2 := manyN_le (dirB s.di (p / 64) j) n
        omega
      have hr0 : Row g 73 [.slice (some ⟨h, 0, none⟩) (64 * n) (64 * n), .map (some m)] wr := HH.out.r0.only hO.out fun e => HH.out.ne.2.1 e
      have hr1 : Row h 5 (s.nw.map b8) wr := HH.out.r1.only hO.out fun e => HH.out.ne.2.2 e
      have c0 := hr0.cell (j := 0) (by simp)
      have c1 := hr0.cell (j := 1) (by simp)
      have HR0 := Lib.hid hr0
      have HR1 := Lib.hid hr1
      have tq : Int.tdiv (a : Int) 64 = (q : Int) := by rw [Int.tdiv_eq_ediv_of_nonneg (by omega)]; have := HQ1.out; omega
      have tw : IntKind.i64.wrap (q : Int) = (q : Int) := IntWalk.i64_in _ (by omega)
      have hkey : keyOf Try.prog 3 (.int .i64 (q : Int)) = some (.int .i64 (q : Int)) := keyOf_int_mk Try.underlying3 (WalkArith.wf_i64 (by omega))
      have HK := Lib.hid hkey
      have hz : RB (.agg (List.replicate 64 (Value.int .u8 0)).toArray) = some (.held (List.replicate 64 0), []) := by
        have := RB_mk (List.replicate 64 0) (by simp)
        rwa [aggB_zero] at this
      have HZ := Lib.hid hz
      have hhas := hmap.hasIt (b := q) hqn
      have hlt' : (a : Int) < (E : Int) := by omega
      clear hown hmap hr0 hr1 hkey hz
      cases hd : (dirB s.di (p / 64) j).getD q false with
      | true =>
        rw [hd] at hhas
        have HHS := Lib.hid hhas
        have HD := Lib.hid hd
        clear hhas hd
        go_wp2_with (first
          | (at_lookup; refine wpList_lookup_own_ok _ rfl _ _ 71 rfl 3 87 keyed_int Try.underlying71 RB (zero_block _) (.held (List.replicate 64 0)) [] HZ.out m _ D rfl HOW.out _ (.int .i64 (q : Int)) rfl HK.out ?_; intro v ps hv; rw [HHS.out]; obtain ⟨bs, hbl, rfl, hzz⟩ := aggB_of v _ _ hv)
          | (refine wpList_var_agg rfl rfl 87 7 (.tmp 21) rfl rfl rfl rfl (by simp) _ 64 zero_block info_block (by simp) (bs.map b8) rfl rfl (by simp [hbl]) (b8_one bs) ?_))
        go_roundw
        case rel =>
          refine ⟨j + 1, by rw [HQ2.out]; exact congrArg _ (by omega), fun _ => ⟨by have := HE.out; omega, by have := HE.out; have := HQ1.out; have := HQ.out; omega⟩, ⟨_, D, HOW.out.alloc _, ?_⟩, hO.out.alloc _⟩
          show MapIs D n s.st ((dirB s.di (p / 64) j).set (p / 64 + j) true)
          rw [HQ.out, set_same HD.out]
          exact HMP.out
        case measure => simp [RowKit.intOf]; have := HQ1.out; omega
      | false =>
        rw [hd] at hhas
        have HHS := Lib.hid hhas
        have HD := Lib.hid hd
        clear hhas hd
        go_wp2_with (first
          | (at_lookup; refine wpList_lookup_own_ok _ rfl _ _ 71 rfl 3 87 keyed_int Try.underlying71 RB (zero_block _) (.held (List.replicate 64 0)) [] HZ.out m _ D rfl HOW.out _ (.int .i64 (q : Int)) rfl HK.out ?_; intro v ps hv; rw [HHS.out]; obtain ⟨bs, hbl, rfl, hzz⟩ := aggB_of v _ _ hv)
          | (refine wpList_var_agg rfl rfl 87 7 (.tmp 21) rfl rfl rfl rfl (by simp) _ 64 zero_block info_block (by simp) (bs.map b8) rfl rfl (by simp [hbl]) (b8_one bs) ?_))
        clear hv hzz
        obtain ⟨W2, hW2⟩ : ∃ W2, wr.alloc (Obj.cells (bs.map b8).toArray 87) = W2 := ⟨_, rfl⟩
        rw [hW2]
        have hb2 : Below wr.heap.size wr W2 := hW2 ▸ (Below.refl _ _).alloc (Nat.le_refl _) _
        have hbd : Below wr.heap.size wr W2.drew := hb2.drew
        have ow : W2.drew.ownsMap Try.prog 3 RB m (Maps.size D) D := ownsMap_only HOW.out (Only.of_below (F := fun _ => False) hbd) id
        have hrx := HR1.out.up hbd
        have hl3 := HH.out.ok.2.2.1
        have hbl2 := blk_len hl3 hqn
        have hld := run_loadAt_mid (P := Try.prog) W2.drew h (64 * q) 87 ((blk s.nw q).map b8) _ (block_range hrx hl3 hqn) Try.underlying87 rfl (by rw [List.length_map, hbl2]; exact info_block)
        obtain ⟨r, hr⟩ : ∃ r, 64 * q = r := ⟨_, rfl⟩
        rw [hr] at hld
        have HLD := Lib.hid hld
        clear hld
        have hat := fun (r : Nat) (hx : ¬ 64 * n - r < 64) => run_arrayAt64 h r (64 * n - r) (64 * n - r) hx
        have HRq := Lib.hid hr
        have HBL2 := Lib.hid hbl2
        have t1 : IntKind.i64.wrap ((q : Int) * 64) = (r : Int) := by rw [IntWalk.i64_in _ (by omega)]; omega
        have t2 : (0 : Int) ≤ (r : Int) := by omega
        have t3 : (r : Int) ≤ 64 * (n : Int) := by omega
        have t4 : ((r : Int)).toNat = r := by omega
        have t5 : r ≤ 64 * n := by omega
        have t6 : ¬ 64 * n = r := by omega
        have t7 : ¬ 64 * n - r < 64 := by omega
        have HB2 := Lib.hid hb2
        have HOW2 := Lib.hid ow
        have d0 := (HR0.out.up hb2).cell (j := 0) (by simp)
        have d1 := (HR0.out.up hb2).cell (j := 1) (by simp)
        clear hW2 hb2 hbd ow c0 c1 hr hrx hl3 hbl2
        refine wp_region_still_tail 14 (by kernel_rfl) (by kernel_rfl) ?_
        simp only [List.take_succ_cons, List.take_zero, List.drop_succ_cons, List.drop_zero]
        iterate 13 still_step
        refine wpStill_load rfl 87 (.tmp 37) rfl _ HLD.out ?_
        refine wpStill_nil ?_
        change wpList _ _ _ _ _ W2.drew
        go_wp2_with (first | (at_mapUpdate; refine wpList_mapUpdate_own _ rfl _ _ _ 71 rfl 3 87 keyed_int Try.underlying71 RB m _ D rfl HOW2.out (by unfold maxLen; omega) _ _ (.int .i64 (q : Int)) rfl rfl HK.out (.held (blk s.nw q)) [] (RB_mk _ HBL2.out) ?_; intro w3 ho3 hg3))
        go_roundw
        case rel =>
          refine ⟨j + 1, by rw [HQ2.out]; exact congrArg _ (by omega), fun _ => ⟨by have := HE.out; omega, by have := HE.out; have := HQ1.out; have := HQ.out; omega⟩, ⟨_, _, ho3, ?_⟩, ((hO.out.trans (Only.of_below HB2.out)).drew.trans (only_grown hg3 rfl))⟩
          show MapIs _ n s.st ((dirB s.di (p / 64) j).set (p / 64 + j) true)
          rw [HQ.out]
          obtain ⟨l1, l2, l3, -⟩ := HH.out.ok
          have hdi : ¬ s.di.getD q false = true := fun hx => by
            have := (dirB_get s.di (p / 64) j (by have := HQ.out; omega) q).2 (Or.inl hx)
            rw [HD.out] at this; cases this
          exact HMP.out.put HOW.out.isMap (by rw [dirB_len]; exact l1) hqn ((blk_same l3 l2 hqn).2 fun i hi => (HH.out.cl q hqn hdi i hi).symm)
        case measure => simp [RowKit.intOf]; have := HQ1.out; omega
    · have hlt' : ¬ (a : Int) < (E : Int) := by omega
      clear hlt
      go_wp2_with fail
      go_end0
      obtain ⟨k, D, hown, hmap⟩ := hM.out
      refine ⟨rfl, hO.out, k, D, hown, ?_⟩
      have hE := HE.out
      have hJ := hj.out
      have hA := HA.out
      unfold nextP at hA
      by_cases h0 : j = 0
      · subst h0
        rw [if_pos rfl] at hA
        obtain rfl : L = 0 := by omega
        exact hmap
      · rw [if_neg h0] at hA
        have := hJ (by omega)
        rw [dirB_dirN s.di p L j this.1 (by rw [HH.out.ok.1]; omega) (by omega) this.2] at hmap
        exact hmap
end Go.Proofs.Ytehfbafocbcfnaa
