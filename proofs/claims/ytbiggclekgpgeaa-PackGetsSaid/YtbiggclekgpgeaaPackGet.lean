/- The contract of the landed pack.Get. -/
import Derived.Test.YtbiggclekgpgeaaPackBits
import Derived.Test.YtbiggclekgpgeaaPackC
import Derived.Test.YtbiggclekgpgeaaOnly
import Derived.RegionTactic
import Derived.BigRegion
import Derived.Deep.OwnRows
namespace Go.Proofs.Ytbiggclekgpgeaa
open Go Go.RowKit
set_option linter.unusedVariables false

/-- what so many numbers at a row's start come to -/
def NumsTo (w : World) (bs : List Nat) (m : Nat) (e : Ending) (w' : World) : Prop :=
  Below w.heap.size w w' ∧ ((∃ (L : List Int) (r : List Nat) (a : Option Addr) (c g : Nat), L.length = m ∧ (∀ n ∈ L, i64 n) ∧ bs = allB L ++ r ∧ Cells w a r.length (r.map b8) ∧ r.length ≤ c ∧ c ≤ maxLen ∧ Row g 2 (L.map iv) w' ∧ w.heap.size ≤ g ∧
      e = .returned (.tuple #[.slice (some ⟨g, 0, none⟩) m m, .slice a r.length c, .bool true])) ∨
    (∃ (L : List Int) (r : List Nat), L.length < m ∧ (∀ n ∈ L, i64 n) ∧ bs = allB L ++ r ∧ RdNo r ∧ e = .returned (.tuple #[.slice none 0 0, .slice none 0 0, .bool false])))

theorem made_rep (z : Value) (n : Nat) : madeCells #[z] n = (List.replicate n z).toArray := by
  refine Array.ext ?_ fun i h1 h2 => ?_
  · simp [size_madeCells]
  · simp [madeCells, Nat.mod_one]

theorem fill_step (L : List Int) (m : Nat) (v : Int) (h : L.length < m) : (L.map iv ++ List.replicate (m - L.length) (iv 0)).set L.length (iv v) = (L ++ [v]).map iv ++ List.replicate (m - (L ++ [v]).length) (iv 0) := by
  have e : List.replicate (m - L.length) (iv 0) = iv 0 :: List.replicate (m - (L ++ [v]).length) (iv 0) := by
    rw [List.length_append, List.length_singleton, show m - L.length = (m - (L.length + 1)) + 1 by omega, List.replicate_succ]
  rw [e, List.set_append_right _ _ (by simp)]
  simp

/-- what is left behind so many -/
theorem rest_cells {w : World} {a : Option Addr} {ds r r2 : List Nat} {s : Nat} (h : Cells w a r.length (r.map b8)) (e : r = ds ++ r2) (hs : ds.length = s) : Cells w (Option.map (fun x => x.add s) a) r2.length (r2.map b8) := by
  by_cases h0 : r2.length = 0
  · exact ⟨by simp, Or.inl h0⟩
  · obtain ⟨b, off, rfl⟩ : ∃ b off, a = some ⟨b, off, none⟩ := by
      rcases h.2 with h | ⟨b, off, rfl, _⟩
      · exfalso
        rw [e, List.length_append] at h
        omega
      · exact ⟨b, off, rfl⟩
    have := sub_cells h (p := s) (n := r2.length) (by rw [e, List.length_append]; omega)
    rw [e, ← hs, List.drop_left, List.take_length] at this
    rw [Option.map_some, Go.WideShapes.add_plain, ← hs]
    exact this

set_option maxRecDepth 100000 in
set_option maxHeartbeats 8000000 in
theorem getNumbers_any (a : Option Addr) (n c m : Nat) (bs : List Nat) (w : World) (hb : Cells w a n (bs.map b8)) (h256 : ∀ b ∈ bs, b < 256) (hn : n ≤ 1000) (hc : n ≤ c) (hcm : c ≤ maxLen) (hm : m ≤ 16) :
    Calls Try.prog 15 #[.slice a n c, .int .i64 (m : Int)] w (NumsTo w bs m) := by
  have hl : bs.length = n := by have := hb.1; rwa [List.length_map] at this
  subst hl
  have H256 := Lib.hid h256
  have HB := Lib.hid hb
  have HCM : Hid (c ≤ 9223372036854775807) := by show c ≤ 9223372036854775807; simpa [maxLen] using hcm
  have hm1 := run_make_row' (P := Try.prog) 22 2 (.int .i64 0) 8 Try.underlying22 info_i64 rfl .i64 .i64 m (by omega) (by omega)
  simp only [made_rep] at hm1
  have hrow := Row.new w (List.replicate m (iv 0)) 2
  have HROW : Hid (Row w.heap.size 2 (([] : List Int).map iv ++ List.replicate (m - ([] : List Int).length) (iv 0)) (w.alloc (.cells (List.replicate m (Value.int .i64 0)).toArray 2))) := hrow
  clear h256 hb hcm hrow
  go_enter Try.func15, Try.ntmps15
  go_wp2_with fail
  go_loopw [0, 16] (fun b i wr => ∃ (L : List Int) (r : List Nat) (a2 : Option Addr) (c2 : Nat), b = .slice a2 r.length c2 ∧ i = .int .i64 (L.length : Int) ∧ L.length ≤ m ∧ r.length ≤ bs.length ∧ r.length ≤ c2 ∧ c2 ≤ c ∧ Hid ((∀ n ∈ L, i64 n) ∧ bs = allB L ++ r) ∧ Hid (Cells w a2 r.length (r.map b8)) ∧
    Hid (Row w.heap.size 2 (L.map iv ++ List.replicate (m - L.length) (iv 0)) wr) ∧ Hid (Below w.heap.size w wr)) (fun _ i _ => m - (RowKit.intOf i).toNat)
  case atStart => exact ⟨[], bs, a, c, rfl, rfl, by simp, Nat.le_refl _, hc, Nat.le_refl _, ⟨fun n hn => absurd hn (by simp), rfl⟩, HB, HROW, (Below.refl _ _).alloc (Nat.le_refl _) _⟩
  case round =>
    obtain ⟨L, r, a2, c2, rfl, rfl, hL, hr, hrc, hcc, hbs, hcl, hrow, hbel⟩ := hrel
    by_cases hlt : L.length < m
    · have t1 : (L.length : Int) < (m : Int) := by omega
      have hr256 : ∀ b ∈ r, b < 256 := fun b hb => H256.out b (by rw [hbs.out.2]; exact List.mem_append_right _ hb)
      go_wp2_with fail
      refine (getDigits_any a2 r.length c2 r _ (hcl.out.below hbel.out (fun x hx => ?_)) hr256 (by omega)).mono ?_
      · rcases hcl.out.2 with h0 | ⟨b, off, rfl, hcc⟩
        · exact Or.inl h0
        · by_cases h0 : r.length = 0
          · exact Or.inl h0
          · cases hx
            exact Or.inr (cell_lt (hcc 0 (by omega)))
      rintro e w1 ⟨hb1, ⟨u, r2, hu, hru, rfl⟩ | ⟨hno, x, y, rfl⟩⟩
      · have hbel1 := Lib.hid (hbel.out.trans (hb1.mono hbel.out.size))
        have hrow1 := Lib.hid (hrow.out.up hb1)
        have hcell := hrow1.out.cell (j := L.length) (by simp; omega)
        have hfro := hrow1.out.frozen L.length
        have hlen : r.length = (dig7 u).length + r2.length := by rw [hru, List.length_append]
        have hs1 := dig7_len u
        obtain ⟨s, hs⟩ : ∃ s, (dig7 u).length = s := ⟨_, rfl⟩
        have HNB : Hid (dig7 u = numB (unzig u)) := by show _ = _; unfold numB; rw [zig_unzig]
        have H64 := Lib.hid (unzig_64 hu)
        obtain ⟨V, hV⟩ : ∃ V, unzig u = V := ⟨_, rfl⟩
        have HUF := Lib.hid (unfold_any u hu)
        rw [hV] at HNB H64 HUF
        have hset := fill_step L m V hlt
        have hrow2 : Hid (Row w.heap.size 2 ((L ++ [V]).map iv ++ List.replicate (m - (L ++ [V]).length) (iv 0)) (w1.setCell ⟨w.heap.size, L.length, none⟩ (.int .i64 V))) := by
          show Row _ _ _ _
          rw [← hset]
          exact hrow1.out.set L.length (.int .i64 V)
        have hbel2 := Lib.hid (hbel1.out.setCell (p := ⟨w.heap.size, L.length, none⟩) (Nat.le_refl _) (.int .i64 V))
        have hbs2 : Hid ((∀ n ∈ L ++ [V], i64 n) ∧ bs = allB (L ++ [V]) ++ r2) := by
          refine ⟨fun n hn => ?_, ?_⟩
          · rcases List.mem_append.1 hn with h | h
            · exact hbs.out.1 n h
            · rw [List.mem_singleton.1 h]; exact H64.out
          · rw [allB_snoc, List.append_assoc, ← HNB.out, ← hru]; exact hbs.out.2
        rw [hs] at hlen hs1
        rw [hs]
        have HRU := Lib.hid hru
        have HSL := Lib.hid hs
        clear hb1 hru hs hV hset
        have i1 : (0 : Int) ≤ (s : Int) := by omega
        have i2 : (s : Int) ≤ (r.length : Int) := by omega
        by_cases hcs : c2 = s
        · subst hcs
          go_wp2_with fail
          refine (HUF.out _).mono ?_
          rintro e w2 ⟨hw2, rfl⟩
          rw [hw2]
          clear hw2 w2
          go_wp2_with fail
          refine ⟨⟨L ++ [V], r2, a2, 0, rfl, by simp, by simp; omega, by omega, by omega, by omega, hbs2, ⟨by simp, Or.inl (by omega)⟩, hrow2, hbel2⟩, by simp [RowKit.intOf]; omega⟩
        · go_wp2_with fail
          refine (HUF.out _).mono ?_
          rintro e w2 ⟨hw2, rfl⟩
          rw [hw2]
          clear hw2 w2
          go_wp2_with fail
          refine ⟨⟨L ++ [V], r2, _, c2 - s, rfl, by simp, by simp; omega, by omega, by omega, by omega, hbs2, rest_cells hcl.out HRU.out HSL.out, hrow2, hbel2⟩, by simp [RowKit.intOf]; omega⟩
      · have HNO := Lib.hid hno.rd
        have hbel1 := Lib.hid (hbel.out.trans (hb1.mono hbel.out.size))
        clear hno hb1
        go_wp2_with fail
        refine bodyPost_ret (v := .tuple #[.slice none 0 0, .slice none 0 0, .bool false]) (by simp [results, Try.results15, go_sem]) rfl (show NumsTo w bs m _ _ from ⟨hbel1.out, Or.inr ⟨L, r, hlt, hbs.out.1, hbs.out.2, HNO.out, rfl⟩⟩)
    · obtain rfl : L.length = m := by omega
      have t1 : (L.length : Int) ≤ (L.length : Int) := Int.le_refl _
      have hfin : Hid (Row w.heap.size 2 (L.map iv) wr) := by
        have := hrow.out
        rw [Nat.sub_self, List.replicate_zero, List.append_nil] at this
        exact this
      clear hlt
      go_wp2_with fail
      refine bodyPost_ret (v := .tuple #[.slice (some ⟨w.heap.size, 0, none⟩) L.length L.length, .slice a2 r.length c2, .bool true]) (by simp [results, Try.results15, go_sem]) rfl (show NumsTo w bs L.length _ _ from ⟨hbel.out, Or.inl ⟨L, r, a2, c2, w.heap.size, rfl, hbs.out.1, hbs.out.2, hcl.out, hrc, by have := HCM.out; simp only [maxLen]; omega, hfin.out, Nat.le_refl _, rfl⟩⟩)

theorem iv_cell {g : Nat} {L : List Int} {w : World} (h : Row g 2 (L.map iv) w) {j : Nat} (hj : j < L.length) : w.cell? ⟨g, j, none⟩ = some (.int .i64 (L.getD j 0)) := by
  rw [h.cell (by simpa using hj)]
  simp [List.getD, hj, iv]

theorem elems_row {g : Nat} {L : List Int} {w : World} (h : Row g 2 (L.map iv) w) (h64 : ∀ n ∈ L, i64 n) {m : Nat} (hm : L.length = m) : Elems w (some ⟨g, 0, none⟩) m L :=
  ⟨hm, h64, Or.inr ⟨g, 0, rfl, fun j hj => by rw [Nat.zero_add]; exact iv_cell h (by omega)⟩⟩

set_option maxRecDepth 100000 in
set_option maxHeartbeats 8000000 in
theorem get_any (a : Option Addr) (n c : Nat) (bs : List Nat) (w : World) (hb : Cells w a n (bs.map b8)) (h256 : ∀ b ∈ bs, b < 256) (hn : n ≤ 1000) (hc : n ≤ c) (hcm : c ≤ maxLen) :
    Calls Try.prog 10 #[.slice a n c] w (CmdTo w bs) := by
  have HB : Hid (∀ W, Below w.heap.size w W → Cells W a n (bs.map b8)) := fun W hW => hb.upB hW
  have hl : bs.length = n := by have := hb.1; rwa [List.length_map] at this
  have H256 := Lib.hid h256
  have HLN := Lib.hid hl
  have HCM := Lib.hid hcm
  have rb0 := build_cmd0
  have rb4 := build_cmd4
  clear hb hl h256 hcm
  obtain ⟨W0, hW0⟩ : ∃ W0, W0 = w.alloc zcmd := ⟨_, rfl⟩
  have HS0 : Hid (W0.heap.size = w.heap.size + 1) := by rw [hW0]; exact World.size_alloc ..
  have E1 : Hid (∀ W, Below (w.heap.size + 1) W0 W → Below w.heap.size w W) := fun W hW => ((Below.refl w.heap.size w).alloc (Nat.le_refl _) _).trans (by rw [hW0] at hW; exact hW.mono (by omega))
  have Z0 : Hid (∀ W, Below (w.heap.size + 1) W0 W → (W.cell? ⟨w.heap.size, 0, none⟩ = some (.int .i64 0) ∧ W.cell? ⟨w.heap.size, 1, none⟩ = some (.int .i64 0) ∧ W.cell? ⟨w.heap.size, 2, none⟩ = some (.int .i64 0) ∧ W.cell? ⟨w.heap.size, 3, none⟩ = some (.slice none 0 0)) ∧ W.frozen? ⟨w.heap.size, 0, none⟩ = false ∧ W.frozen? ⟨w.heap.size, 1, none⟩ = false ∧ W.frozen? ⟨w.heap.size, 2, none⟩ = false ∧ W.frozen? ⟨w.heap.size, 3, none⟩ = false) := fun W hW => by
    rw [hW0] at hW; exact ⟨cmd_cells hW, cmd_frozen hW⟩
  have B0 := Lib.hid (E1.out _ (Below.refl _ _))
  go_enter Try.func10, Try.ntmps10
  go_wp2_with fail
  rw [← hW0]
  clear hW0
  refine (getNumbers_any a n c 4 bs _ (HB.out _ B0.out) H256.out hn hc HCM.out (by omega)).mono ?_
  rintro e w1 ⟨hb1, ⟨L, r, a2, c2, g, hL, h64, hbs, hcl, hrc, hc2, hrow, hg, rfl⟩ | ⟨L, r, hL, h64, hbs, hno, rfl⟩⟩
  · have HU1 := Lib.hid hb1
    rw [HS0.out] at hb1 hg
    have HB1 := Lib.hid hb1
    obtain ⟨⟨z0, z1, z2, z3⟩, f0, f1, f2, f3⟩ := Z0.out _ HB1.out
    obtain ⟨k, y, l, m, rfl⟩ : ∃ k y l n, L = [k, y, l, n] := by
      match L, hL with
      | [k, y, l, n], _ => exact ⟨k, y, l, n, rfl⟩
    have HBS := Lib.hid (And.intro h64 hbs)
    have HCL := Lib.hid hcl
    have HROW := Lib.hid hrow
    have x3 : w1.cell? ⟨g, 3, none⟩ = some (.int .i64 m) := iv_cell HROW.out (j := 3) (by simp)
    have HC2 := Lib.hid hc2
    clear hb1 h64 hbs hcl hrow hc2
    by_cases hm : m < 0 ∨ 16 < m
    · have HN := Lib.hid (noCmd_count HBS.out.2 hm)
      have hm2 : m < 0 ∨ (0 ≤ m ∧ 16 < m) := by omega
      clear hm
      rcases hm2 with hm | ⟨hm, hm'⟩
      all_goals
        go_wp2_with fail
        refine bodyPost_ret (v := .tuple #[cmdV 0 0 0 (.slice none 0 0), errK 2]) (by simp [results, Try.results10, go_sem, z0, z1, z2, z3]) rfl (show CmdTo w bs _ _ from ⟨?_, Or.inr ⟨HN.out, none, 0, rfl⟩⟩)
        exact ((((E1.out _ HB1.out).setCell (by simp) _).setCell (by simp) _).setCell (by simp) _).setCell (by simp) _
    · obtain ⟨M, rfl⟩ : ∃ M : Nat, m = (M : Int) := ⟨m.toNat, by omega⟩
      have m0 : (0 : Int) ≤ (M : Int) := by omega
      have m1 : (M : Int) ≤ 16 := by omega
      have hr256 : ∀ b ∈ r, b < 256 := fun b hb => H256.out b (by rw [HBS.out.2]; exact List.mem_append_right _ hb)
      have hrl : r.length ≤ 1000 := by have h1 := congrArg List.length HBS.out.2; rw [List.length_append, HLN.out] at h1; omega
      have HR256 := Lib.hid hr256
      clear hm hr256
      go_wp2_with fail
      refine (getNumbers_any a2 r.length c2 M r _ ?_ HR256.out hrl hrc HC2.out (by omega)).mono ?_
      · exact HCL.out.upB HU1.out
      rintro e w2 ⟨hb2, ⟨N, r2, a3, c3, g2, hN, h64, hbs, hcl, hrc2, hc3, hrow, hg2, rfl⟩ | ⟨N, r2, hN, h64, hbs, hno, rfl⟩⟩
      · have hsz : w.heap.size + 1 ≤ w1.heap.size := by have := HB1.out.size; rw [HS0.out] at this; exact this
        have HB2 := Lib.hid (HB1.out.trans (hb2.mono hsz))
        have HR2 := Lib.hid (HROW.out.up hb2)
        have HRN := Lib.hid hrow
        have h16 : N.length ≤ 16 := by omega
        obtain ⟨⟨z0, z1, z2, z3⟩, f0, f1, f2, f3⟩ := Z0.out _ HB2.out
        have y0 : w2.cell? ⟨g, 0, none⟩ = some (.int .i64 k) := iv_cell HR2.out (j := 0) (by simp)
        have y1 : w2.cell? ⟨g, 1, none⟩ = some (.int .i64 y) := iv_cell HR2.out (j := 1) (by simp)
        have y2 : w2.cell? ⟨g, 2, none⟩ = some (.int .i64 l) := iv_cell HR2.out (j := 2) (by simp)
        have hbs2 : bs = allB (k :: y :: l :: (M : Int) :: N) ++ r2 := by
          rw [HBS.out.2, hbs]
          simp [allB]
        have HBS2 := Lib.hid hbs2
        have H64 := Lib.hid h64
        have hgne : w.heap.size < g := by omega
        have HG2 : Hid (w.heap.size + 1 ≤ g2) := by show _ ≤ _; omega
        clear hb2 h64 hbs hcl hrow hbs2 x3
        by_cases hr2 : r2.length = 0
        · have hr0 : r2 = [] := List.eq_nil_of_length_eq_zero hr2
          have hcmd : Hid (bs = putB k y l N) := by
            refine isCmd (n := (M : Int)) ?_ (by rw [hN])
            rw [HBS2.out, hr0, List.append_nil]
          clear hr0
          go_wp2_with fail
          go_region
          have hfin : ∀ (v0 v1 v2 v3 : Value), Row g2 2 (N.map iv) ((((w2.setCell ⟨w.heap.size, 0, none⟩ v0).setCell ⟨w.heap.size, 1, none⟩ v1).setCell ⟨w.heap.size, 2, none⟩ v2).setCell ⟨w.heap.size, 3, none⟩ v3).drew := fun v0 v1 v2 v3 => by
            have hne : w.heap.size ≠ g2 := by have := HG2.out; omega
            exact ((((HRN.out.setOther (p := ⟨w.heap.size, 0, none⟩) hne v0).setOther (p := ⟨w.heap.size, 1, none⟩) hne v1).setOther (p := ⟨w.heap.size, 2, none⟩) hne v2).setOther (p := ⟨w.heap.size, 3, none⟩) hne v3).drewN 1
          have HFIN := Lib.hid hfin
          clear hfin
          go_wp2_with fail
          refine bodyPost_ret (v := .tuple #[cmdV k y l (.slice (some ⟨g2, 0, none⟩) M M), .nilIface]) (by simp [results, Try.results10, go_sem, z0, z1, z2, z3]) rfl (show CmdTo w bs _ _ from ⟨?_, Or.inl ⟨k, y, l, N, some ⟨g2, 0, none⟩, M, ⟨HBS.out.1 k (by simp), HBS.out.1 y (by simp), HBS.out.1 l (by simp), h16, H64.out⟩, hcmd.out, elems_row (HFIN.out _ _ _ _) H64.out rfl, fun x hx => ?_, by omega, by rw [hN]⟩⟩)
          · exact (((((E1.out _ HB2.out).setCell (by simp) _).setCell (by simp) _).setCell (by simp) _).setCell (by simp) _).drew
          · cases hx
            exact Or.inr (Nat.le_of_lt HG2.out)
        · have hr0 : r2 ≠ [] := fun h => hr2 (by rw [h]; rfl)
          have HN := Lib.hid (noCmd_rest HBS2.out (by rw [hN]) hr0)
          have hr3 : (0 : Int) < (r2.length : Int) := by omega
          clear hr0
          go_wp2_with fail
          refine bodyPost_ret (v := .tuple #[cmdV 0 0 0 (.slice none 0 0), errK 2]) (by simp [results, Try.results10, go_sem, z0, z1, z2, z3]) rfl (show CmdTo w bs _ _ from ⟨?_, Or.inr ⟨HN.out, none, 0, rfl⟩⟩)
          exact ((((E1.out _ HB2.out).setCell (by simp) _).setCell (by simp) _).setCell (by simp) _).setCell (by simp) _
      · have hsz : w.heap.size + 1 ≤ w1.heap.size := by have := HB1.out.size; rw [HS0.out] at this; exact this
        have HB2 := Lib.hid (HB1.out.trans (hb2.mono hsz))
        obtain ⟨⟨z0, z1, z2, z3⟩, f0, f1, f2, f3⟩ := Z0.out _ HB2.out
        have HN : Hid (NoCmd bs) := by
          refine noCmd_short (L := k :: y :: l :: (M : Int) :: N) (rest := r2) ?_ hno (Or.inr ⟨k, y, l, M, N, rfl, by omega⟩)
          rw [HBS.out.2, hbs]
          simp [allB]
        clear hb2 h64 hbs hno x3
        go_wp2_with fail
        refine bodyPost_ret (v := .tuple #[cmdV 0 0 0 (.slice none 0 0), errK 2]) (by simp [results, Try.results10, go_sem, z0, z1, z2, z3]) rfl (show CmdTo w bs _ _ from ⟨?_, Or.inr ⟨HN.out, none, 0, rfl⟩⟩)
        exact ((((E1.out _ HB2.out).setCell (by simp) _).setCell (by simp) _).setCell (by simp) _).setCell (by simp) _
  · rw [HS0.out] at hb1
    have HB1 := Lib.hid hb1
    obtain ⟨⟨z0, z1, z2, z3⟩, f0, f1, f2, f3⟩ := Z0.out _ HB1.out
    have HN := Lib.hid (noCmd_short hbs hno (Or.inl hL))
    clear hb1 h64 hbs hno
    go_wp2_with fail
    refine bodyPost_ret (v := .tuple #[cmdV 0 0 0 (.slice none 0 0), errK 2]) (by simp [results, Try.results10, go_sem, z0, z1, z2, z3]) rfl (show CmdTo w bs _ _ from ⟨?_, Or.inr ⟨HN.out, none, 0, rfl⟩⟩)
    exact ((((E1.out _ HB1.out).setCell (by simp) _).setCell (by simp) _).setCell (by simp) _).setCell (by simp) _
end Go.Proofs.Ytbiggclekgpgeaa
