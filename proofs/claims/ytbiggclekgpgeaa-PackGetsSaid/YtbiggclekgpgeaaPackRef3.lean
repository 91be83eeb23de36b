/- The contract of the document's answer of layer 6: the number that begins at a place. -/
import Derived.Test.YtbiggclekgpgeaaPackRef1
import Derived.Test.YtbiggclekgpgeaaStr
import Derived.Deep.RegionLaw
import Derived.Lib.Mul64
namespace Go.Proofs.Ytbiggclekgpgeaa
open Go Go.RowKit
set_option linter.unusedVariables false

def ReadTo (w : World) (l : List Nat) (p : Nat) (e : Ending) (w' : World) : Prop :=
  Below w.heap.size w w' ∧ ((∃ v r, i64 v ∧ l = numB v ++ r ∧ e = .returned (.tuple #[.int .i64 v, .int .i64 ((p + (numB v).length : Nat) : Int)])) ∨
    (RdNo l ∧ e = .returned (.tuple #[.int .i64 0, .int .i64 (-1)])))

theorem byte_at {w : World} {a : Option Addr} {len : Nat} {bs : List Nat} (h : Cells w a len (bs.map b8)) {i : Nat} (hi : i < len) :
    ∃ b off, a = some ⟨b, off, none⟩ ∧ w.cell? ⟨b, off + i, none⟩ = some (.int .u8 ((bs.getD i 0 : Nat) : Int)) := by
  obtain ⟨h1, h2⟩ := h
  rw [List.length_map] at h1
  rcases h2 with h0 | ⟨b, off, rfl, hc⟩
  · omega
  · refine ⟨b, off, rfl, ?_⟩
    rw [hc i hi]
    simp [List.getD, b8, show i < bs.length by omega]

theorem byte_lt {bs : List Nat} (h : ∀ b ∈ bs, b < 256) (i : Nat) : bs.getD i 0 < 256 := by
  by_cases hi : i < bs.length
  · have : bs.getD i 0 ∈ bs := by simp [List.getD, hi]
    exact h _ this
  · simp [List.getD, List.getElem?_eq_none (show bs.length ≤ i by omega)]

theorem getD_drop (bs : List Nat) (p i : Nat) : (bs.drop p).getD i 0 = bs.getD (p + i) 0 := by simp [List.getD, List.getElem?_drop]

theorem drop_step (bs : List Nat) (p j c : Nat) (hc : c < j + 1) (hj : p + j < bs.length) :
    val7 ((((bs.drop p).take (j + 1))).drop c) = bs.getD (p + c) 0 % 128 + 128 * val7 (((bs.drop p).take (j + 1)).drop (c + 1)) := by
  rw [val7_step (by rw [List.length_take, List.length_drop]; omega)]
  congr 2
  simp [List.getD, List.getElem?_drop, hc]

theorem sub_cells {w : World} {b off len : Nat} {bs : List Nat} (h : Cells w (some ⟨b, off, none⟩) len (bs.map b8)) {p n : Nat} (hn : p + n ≤ len) :
    Cells w (some ⟨b, off + p, none⟩) n (((bs.drop p).take n).map b8) := by
  obtain ⟨h1, h2⟩ := h
  rw [List.length_map] at h1
  refine ⟨by rw [List.length_map, List.length_take, List.length_drop]; omega, ?_⟩
  by_cases h0 : n = 0
  · exact Or.inl h0
  · rcases h2 with h2 | ⟨b', off', e, hc⟩
    · omega
    · cases e
      refine Or.inr ⟨b, off + p, rfl, fun j hj => ?_⟩
      rw [Nat.add_assoc, hc (p + j) (by omega)]
      simp [List.getD, List.getElem?_drop, hj]

set_option maxRecDepth 100000 in
set_option maxHeartbeats 8000000 in
theorem refRead_any (a : Option Addr) (len cap : Nat) (bs : List Nat) (p : Nat) (w : World) (hb : Cells w a len (bs.map b8)) (h256 : ∀ b ∈ bs, b < 256) (hp : p ≤ len) (hlen : len ≤ 1000) (hcap : len ≤ cap) (hm : cap ≤ maxLen) :
    Calls Try.prog 16 #[.slice a len cap, .int .i64 (p : Int)] w (ReadTo w (bs.drop p) p) := by
  have hl : bs.length = len := by have := hb.1; rwa [List.length_map] at this
  have HL := Lib.hid hl
  have H256 := Lib.hid h256
  have HB : Hid (∀ W, Below w.heap.size w W → Cells W a len (bs.map b8)) := fun W hW => hb.upB hW
  have hc2 : (len : Int) ≤ (cap : Int) := by omega
  have HM := Lib.hid hm
  clear hl h256 hb hm
  go_enter Try.func16, Try.ntmps16
  go_wp2_with fail
  go_loop [6] (fun n => ∃ j : Nat, n = .int .i64 (j : Int) ∧ j ≤ 10 ∧ p + j ≤ len ∧ Hid (∀ i, i < j → 127 < (bs.drop p).getD i 0)) (fun n => 10 - (RowKit.intOf n).toNat)
  case atStart => exact ⟨0, rfl, by omega, by omega, fun i hi => by omega⟩
  case round =>
    obtain ⟨j, rfl, hj10, hjl, hbig⟩ := hrel
    have s1 : IntKind.i64.wrap ((p : Int) + (j : Int)) = (p : Int) + (j : Int) := IntWalk.i64_in _ (by omega)
    by_cases hA : len ≤ p + j ∨ 10 ≤ j
    · have HNO : Hid (RdNo (bs.drop p)) := rd_no hbig.out (by rw [List.length_drop, HL.out]; omega)
      by_cases hA1 : len ≤ p + j
      · have t1 : (len : Int) ≤ (p : Int) + (j : Int) := by omega
        clear hA
        go_wp2_with fail
        go_ret2
        exact ⟨Below.refl _ _, Or.inr ⟨HNO.out, rfl⟩⟩
      · have t1 : (p : Int) + (j : Int) < (len : Int) := by omega
        obtain rfl : j = 10 := by omega
        clear hA
        go_wp2_with fail
        go_ret2
        exact ⟨Below.refl _ _, Or.inr ⟨HNO.out, rfl⟩⟩
    · have t1 : (p : Int) + (j : Int) < (len : Int) := by omega
      have t2 : (j : Int) < 10 := by omega
      obtain ⟨bb, off, rfl, hc⟩ := byte_at (HB.out w (Below.refl _ _)) (i := p + j) (by omega)
      have hx256 := byte_lt H256.out (p + j)
      obtain ⟨x, hx⟩ : ∃ x, bs.getD (p + j) 0 = x := ⟨_, rfl⟩
      rw [hx] at hc hx256
      have i1 : ((p : Int) + (j : Int)).toNat = p + j := by omega
      have i2 : 0 ≤ (p : Int) + (j : Int) := by omega
      have HX := Lib.hid hx
      clear hA hx
      by_cases hbt : 127 < x
      · have hnew : Hid (∀ i, i < j + 1 → 127 < (bs.drop p).getD i 0) := fun i hi => by
          by_cases e : i = j
          · subst e; rw [getD_drop, HX.out]; exact hbt
          · exact hbig.out i (by omega)
        have t3 : (127 : Int) < (x : Int) := by omega
        go_wp2_with fail
        go_round
        case rel => exact ⟨j + 1, by go_num, by omega, by omega, hnew⟩
        case measure => simp [RowKit.intOf]; omega
      · have t3 : (x : Int) ≤ 127 := by omega
        have HOR := Lib.hid (rd_or (l := bs.drop p) (j := j) hbig.out (by rw [getD_drop, HX.out]; omega) (by rw [List.length_drop, HL.out]; omega))
        go_wp2_with fail
        go_loop [7, 8] (fun u i => ∃ (c un : Nat), c ≤ j + 1 ∧ i = .int .i64 ((c : Int) - 1) ∧ u = .int .u64 (un : Int) ∧ un < 18446744073709551616 ∧ Hid (un = val7 (((bs.drop p).take (j + 1)).drop c) % 18446744073709551616)) (fun _ i => (RowKit.intOf i + 1).toNat)
        case atStart => exact ⟨j + 1, 0, Nat.le_refl _, by go_num, rfl, by omega, by rw [List.drop_eq_nil_of_le (by rw [List.length_take]; omega)]; rfl⟩
        case round =>
          obtain ⟨c, un, hcj, hi, rfl, hun, hval⟩ := hrel
          cases c with
          | succ c =>
            have ei : ((c + 1 : Nat) : Int) - 1 = (c : Int) := by omega
            rw [ei] at hi
            subst hi
            obtain ⟨b', off', hab, hcc⟩ := byte_at (HB.out w (Below.refl _ _)) (i := p + c) (by omega)
            cases hab
            have hy256 := byte_lt H256.out (p + c)
            obtain ⟨y, hy⟩ : ∃ y, bs.getD (p + c) 0 = y := ⟨_, rfl⟩
            rw [hy] at hcc hy256
            obtain ⟨d, hd⟩ : ∃ d, y % 128 = d := ⟨_, rfl⟩
            have hd1 : d < 128 := by omega
            have ed : (y : Int) % 128 = (d : Int) := by omega
            obtain ⟨nn, hnn⟩ : ∃ nn, (un * 128 + d) % 18446744073709551616 = nn := ⟨_, rfl⟩
            have hnn1 : nn < 18446744073709551616 := by omega
            have E : IntKind.u64.wrap (IntKind.u64.wrap ((un : Int) * 128) + (d : Int)) = (nn : Int) := by
              rw [IntKind.wrap_u64, IntKind.wrap_u64]; omega
            have hnew : Hid (nn = val7 (((bs.drop p).take (j + 1)).drop c) % 18446744073709551616) := by
              have h1 := drop_step bs p j c (by omega) (by rw [HL.out]; omega)
              rw [hy, hd] at h1
              have h2 := hval.out
              show nn = _
              rw [h1]
              omega
            have s2 : IntKind.i64.wrap ((p : Int) + (c : Int)) = (p : Int) + (c : Int) := IntWalk.i64_in _ (by omega)
            have i3 : ((p : Int) + (c : Int)).toNat = p + c := by omega
            have t4 : (p : Int) + (c : Int) < (len : Int) := by omega
            clear hy hd hnn hval
            go_wp2_with fail
            go_round
            case rel => exact ⟨c, nn, by omega, by go_num, by first | rfl | rw [E], hnn1, hnew⟩
            case measure => first | (simp [RowKit.intOf]; done) | (simp [RowKit.intOf]; omega)
          | zero =>
            have ei : ((0 : Nat) : Int) - 1 = -1 := by omega
            rw [ei] at hi
            subst hi
            have hv0 : un = val7 ((bs.drop p).take (j + 1)) % 18446744073709551616 := hval.out
            obtain ⟨q, hq⟩ : ∃ q, un / 2 = q := ⟨_, rfl⟩
            have hq1 : q ≤ 9223372036854775807 := by omega
            have eq : (un : Int) / 2 = (q : Int) := by omega
            have h64 := unzig_64 hun
            have hor := HOR.out
            rw [← hv0] at hor
            have hpar : ((un : Int) % 2 = 1 ∧ -(q : Int) - 1 = unzig un) ∨ ((un : Int) % 2 = 0 ∧ (q : Int) = unzig un) := by
              unfold unzig
              rw [hq]
              by_cases h : un % 2 = 1
              · rw [if_pos h]; exact Or.inl ⟨by omega, rfl⟩
              · rw [if_neg h]; exact Or.inr ⟨by omega, rfl⟩
            obtain ⟨V, hV⟩ : ∃ V, unzig un = V := ⟨_, rfl⟩
            rw [hV] at hpar hor h64
            have HO := Lib.hid hor
            have HI6 := Lib.hid h64
            have hsub := sub_cells (HB.out w (Below.refl _ _)) (p := p) (n := j + 1) (by omega)
            have HSUB : Hid (∀ W, Below w.heap.size w W → Cells W (some ⟨bb, off + p, none⟩) (j + 1) (((bs.drop p).take (j + 1)).map b8)) := fun W hW => hsub.upB hW
            have rs0 := fun (c : Nat) => run_str_row (c := c) (HSUB.out w.drew (Below.drew (Below.refl _ _)))
            clear hV hq hv0 hor h64 hval HOR hsub
            have s3 : IntKind.i64.wrap ((p : Int) + (j : Int) + 1) = (p : Int) + (j : Int) + 1 := IntWalk.i64_in _ (by omega)
            have g1 : 0 ≤ (p : Int) + (j : Int) + 1 := by omega
            have g2 : (p : Int) + (j : Int) + 1 ≤ (cap : Int) := by omega
            have g3 : ((p : Int) + (j : Int) + 1).toNat = p + j + 1 := by omega
            have g4 : p ≤ p + j + 1 := by omega
            have g5 : p + j + 1 - p = j + 1 := by omega
            have g6 : ¬ cap = p := by omega
            rcases hpar with ⟨em, hVV⟩ | ⟨em, hVV⟩
            all_goals
              go_wp2_with fail
              go_region_law (first
                | (go_simp; go_at_call 14; refine (refNumber6_any V HI6.out _).mono ?_; rintro e w2 ⟨u2, rfl, o2, b2⟩; obtain ⟨a2, k2, rfl, C2, n2, -, -⟩ := own_bytes o2; have rs1 := fun (c : Nat) => run_str_row (c := c) C2; have HB2 := Lib.hid ((Below.drew (Below.refl w.heap.size w)).trans b2); have rs2 := fun (c : Nat) => run_str_row (c := c) (HSUB.out w2 HB2.out); clear o2 b2 C2 n2))
              all_goals
                have HB2 := Lib.hid HB2.out
                by_cases hs : numB V = (bs.drop p).take (j + 1)
                · obtain ⟨r, hr⟩ := HO.out.1 hs
                  have hst : ((strB (numB V)).toList == (strB ((bs.drop p).take (j + 1))).toList) = true := by rw [hs]; exact strB_same _
                  have hst2 : (!((strB (numB V)).toList == (strB ((bs.drop p).take (j + 1))).toList)) = false := by rw [hst]; rfl
                  have HE : Hid ((p : Int) + (j : Int) + 1 = ((p + (numB V).length : Nat) : Int)) := by
                    show _ = _
                    rw [hs, List.length_take, List.length_drop, HL.out]; omega
                  have HR := Lib.hid hr
                  clear hs hr
                  go_wp2_with fail
                  all_goals first
                    | (exfalso; rename_i hx; rw [hst2] at hx; exact absurd hx (by decide))
                    | (go_ret2; exact ⟨HB2.out, Or.inl ⟨V, r, HI6.out, HR.out, by rw [← HE.out]; rfl⟩⟩)
                · have hst : ((strB (numB V)).toList == (strB ((bs.drop p).take (j + 1))).toList) = false := strB_other (dig7_byte _) (fun b hb => H256.out b (List.mem_of_mem_drop (List.mem_of_mem_take hb))) hs
                  have hst2 : (!((strB (numB V)).toList == (strB ((bs.drop p).take (j + 1))).toList)) = true := by rw [hst]; rfl
                  have HN := Lib.hid (HO.out.2 hs)
                  clear hs
                  go_wp2_with fail
                  all_goals first
                    | (exfalso; rename_i hx; rw [hst2] at hx; exact absurd hx (by decide))
                    | (go_ret2; exact ⟨HB2.out, Or.inr ⟨HN.out, rfl⟩⟩)
end Go.Proofs.Ytbiggclekgpgeaa
