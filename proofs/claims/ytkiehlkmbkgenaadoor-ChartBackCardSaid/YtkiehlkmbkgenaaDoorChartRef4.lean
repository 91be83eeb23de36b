/- The document's answer of layer 9: a name's account. -/
import Derived.Test.YtkiehlkmbkgenaaDoorChartNum2
import Derived.Test.YtkiehlkmbkgenaaDoorChartRef1
import Derived.Test.YtkiehlkmbkgenaaDoorChartRef3
import Derived.Laws.Strings3
import Derived.PlainAid
namespace Go.Proofs.YtkiehlkmbkgenaaDoor
open Go Go.RowKit
set_option linter.unusedVariables false

/-- what Parse tells -/
def RefAccTo (w : World) (L : List UInt8) (e : Ending) (w' : World) : Prop :=
  Below w.heap.size w w' ∧ ((∃ k o : Nat, MayK k o ∧ L = nameL k o ∧ e = .returned (.tuple #[accV k o, .bool true])) ∨
    (NoName L ∧ ∃ k o : Int, e = .returned (.tuple #[accV k o, .bool false])))

theorem build_acc0 (w : World) : (Instr.build 23 #[]).run Tryd.prog w = .ok (accV 0 0) w := run_build w 23 _ _ (by kernel_rfl)
theorem build_acc1 (k : Int) (w : World) : (Instr.build 23 #[(0, .int .i64 k)]).run Tryd.prog w = .ok (accV k 0) w := run_build w 23 _ _ (by kernel_rfl)
theorem build_acc2 (k o : Int) (w : World) : (Instr.build 23 #[(0, .int .i64 k), (1, .int .i64 o)]).run Tryd.prog w = .ok (accV k o) w := run_build w 23 _ _ (by kernel_rfl)

theorem res_drew {W w3 w4 : World} {b : Nat} (hr : Hid (∀ w', Below W.heap.size W w' → w'.cell? ⟨b, 0, none⟩ = some (.int .i64 0) ∧ w'.cell? ⟨b, 1, none⟩ = some (.int .i64 0) ∧ w'.frozen? ⟨b, 0, none⟩ = false ∧ w'.frozen? ⟨b, 1, none⟩ = false))
    (h3 : Hid (Below W.heap.size W w3)) (hb : Below w3.drew.heap.size w3.drew w4) :
    w4.cell? ⟨b, 0, none⟩ = some (.int .i64 0) ∧ w4.cell? ⟨b, 1, none⟩ = some (.int .i64 0) ∧ w4.frozen? ⟨b, 0, none⟩ = false ∧ w4.frozen? ⟨b, 1, none⟩ = false ∧ Below w3.heap.size w3 w4 := by
  have h4 : Below w3.heap.size w3 w4 := ((Below.refl w3.heap.size w3).drew).trans hb
  obtain ⟨c1, c2, c3, c4⟩ := hr.out w4 (h3.out.trans (h4.mono h3.out.size))
  exact ⟨c1, c2, c3, c4, h4⟩
theorem acc_drew {w3 w4 : World} {b : Nat} {k o : Int} (h : Hid (At2 b k o w3)) (hb : Below w3.drew.heap.size w3.drew w4) : w4.cell? ⟨b, 0, none⟩ = some (.int .i64 k) ∧ w4.cell? ⟨b, 1, none⟩ = some (.int .i64 o) := by
  obtain ⟨h1, h2, _⟩ := h.out.up (((Below.refl w3.heap.size w3).drew).trans hb)
  exact ⟨h1, h2⟩

theorem mid_snoc (L : List UInt8) {p q : Nat} (h : p ≤ q) (hq : q < L.length) : (L.drop p).take (q + 1 - p) = (L.drop p).take (q - p) ++ [L.getD q 0] := by
  have e : q + 1 - p = (q - p) + 1 := by omega
  have hl : q - p < (L.drop p).length := by rw [List.length_drop]; omega
  rw [e, List.take_add_one, List.getElem?_eq_getElem hl]
  simp [List.getD, List.getElem_drop, hq, show p + (q - p) = q by omega]

set_option maxRecDepth 100000 in
set_option maxHeartbeats 8000000 in
theorem refParse_any (L : List UInt8) (hL : L.length ≤ 1000) (w : World) : Calls Tryd.prog 14 #[.string (strL L)] w (RefAccTo w L) := by
  have hsz := strL_size L
  obtain ⟨B, hB⟩ : ∃ B : Nat → Nat, B = fun n => (L.getD n 0).toNat := ⟨_, rfl⟩
  have hb : ∀ (n : Nat) (h : n < (strL L).size), (((strL L)[n]'h).toNat : Int) = (B n : Int) := fun n h => by rw [byt_strL h, hB]
  have HBN := Lib.hid (show ∀ n, B n = (L.getD n 0).toNat from fun n => by rw [hB])
  obtain ⟨len, hlen⟩ : ∃ len, L.length = len := ⟨_, rfl⟩
  have HLEN := Lib.hid hlen
  rw [hlen] at hsz hL
  have b0 := build_acc0
  have b1 := build_acc1
  have b2 := build_acc2
  clear hB hlen
  go_enter Tryd.func14, Tryd.ntmps14
  go_wp2_with fail
  refine (refNames_any _).mono ?_
  rintro e w1 ⟨rfl, rfl⟩
  obtain ⟨W, hW⟩ : ∃ W, W = (w.alloc (Obj.cells #[.int .i64 0, .int .i64 0] 23)).alloc (Obj.cells (nams.map fun l => .string (strL l)).toArray 9) := ⟨_, rfl⟩
  have hA : At2 w.heap.size 0 0 W := by rw [hW]; exact (At2.new w 0 0).alloc _
  have hF : W.frozen? ⟨w.heap.size, 0, none⟩ = false ∧ W.frozen? ⟨w.heap.size, 1, none⟩ = false := by rw [hW]; constructor <;> simp
  have hN : ∀ j, j < 12 → W.cell? ⟨w.heap.size + 1, j, none⟩ = some (.string (strL (nam (j + 1)))) := fun j hj => by
    have := names_cell (w.alloc (Obj.cells #[.int .i64 0, .int .i64 0] 23)) j hj
    rw [hW]
    simpa using this
  have hBel : Below w.heap.size w W := by rw [hW]; exact ((Below.refl _ _).alloc (Nat.le_refl _) _).alloc (by simp) _
  have hs0 : (w.alloc (Obj.cells #[.int .i64 0, .int .i64 0] 23)).heap.size = w.heap.size + 1 := by simp
  rw [← hW, hs0]
  have HA := Lib.hid hA
  have HN := Lib.hid hN
  have HBEL := Lib.hid hBel
  obtain ⟨z0, z1, hlt0⟩ := hA
  obtain ⟨f0, f1⟩ := hF
  clear hW hN hBel hs0
  go_wp2_with fail
  go_loop [5] (fun k => ∃ j : Nat, k = .int .i64 ((j : Int) + 1) ∧ j ≤ 12 ∧ Hid (∀ k', k' ≤ j → NoKind L k')) (fun k => 13 - (RowKit.intOf k).toNat)
  case atStart => exact ⟨0, rfl, by omega, fun k' hk' => by rw [show k' = 0 by omega]; exact noKind_zero L⟩
  case round =>
    obtain ⟨j, rfl, hj, hno⟩ := hrel
    by_cases hlt : j < 12
    · have hc := HN.out j hlt
      have q0 : (j : Int) + 1 - 1 = (j : Int) := by omega
      have q1 : IntKind.i64.wrap (j : Int) = (j : Int) := IntWalk.i64_in _ (by omega)
      have q2 : IntKind.i64.wrap ((j : Int) + 1 - 1) = (j : Int) := by rw [q0, q1]
      have q3 : (0 : Int) ≤ (j : Int) := by omega
      have q4 : (j : Int) < 12 := by omega
      have q5 : (j : Int) + 1 ≤ 12 := by omega
      have hps := strL_size (nam (j + 1))
      obtain ⟨p, hp⟩ : ∃ p, (nam (j + 1)).length = p := ⟨_, rfl⟩
      obtain ⟨p3, p9⟩ : 3 ≤ p ∧ p ≤ 9 := by rw [← hp]; exact nam_len ⟨j + 1, by omega⟩ (by simp)
      have HP := Lib.hid hp
      rw [hp] at hps
      clear hp
      by_cases h3 : j + 1 ≤ 3
      · have t3 : (j : Int) + 1 ≤ 3 := by omega
        by_cases he : L = nam (j + 1)
        · have hst : ((strL L).toList == (strL (nam (j + 1))).toList) = true := by rw [strL_eq]; exact decide_eq_true he
          have HE := Lib.hid he
          clear he
          go_wp2_with fail
          refine bodyPost_ret (v := .tuple #[accV ((j : Int) + 1) 0, .bool true]) (by simp [results, Tryd.results14, go_sem, z0, z1]) rfl (show RefAccTo w L _ _ from ⟨?_, Or.inl ⟨j + 1, 0, by unfold MayK; omega, by rw [HE.out]; simp [nameL], rfl⟩⟩)
          exact ((HBEL.out.setCell (by simp) _).setCell (by simp) _)
        · have hst : ((strL L).toList == (strL (nam (j + 1))).toList) = false := by rw [strL_eq]; exact decide_eq_false he
          have HNEW : Hid (∀ k', k' ≤ j + 1 → NoKind L k') := fun k' hk' => by
            rcases Nat.lt_or_ge j k' with h | h
            · rw [show k' = j + 1 by omega]; exact noKind_low h3 he
            · exact hno.out k' h
          clear he
          go_wp2_with fail
          go_round
          case rel => exact ⟨j + 1, by go_num, by omega, HNEW⟩
          case measure => simp [RowKit.intOf]; omega
      · have t3 : ¬ (j : Int) + 1 ≤ 3 := by omega
        have h4 : 4 ≤ j + 1 := by omega
        have HNEW : Hid (NoKind L (j + 1) → ∀ k', k' ≤ j + 1 → NoKind L k') := fun hk k' hk' => by
          rcases Nat.lt_or_ge j k' with h | h
          · rw [show k' = j + 1 by omega]; exact hk
          · exact hno.out k' h
        by_cases c1 : len ≤ p + 1
        · have t4 : (len : Int) ≤ (p : Int) + 1 := by omega
          have HK := Lib.hid (HNEW.out (noKind_len h4 (Or.inl (by rw [HLEN.out, HP.out]; exact c1))))
          go_wp2_with fail
          go_round
          case rel => exact ⟨j + 1, by go_num, by omega, HK⟩
          case measure => simp [RowKit.intOf]; omega
        · have t4 : ¬ (len : Int) ≤ (p : Int) + 1 := by omega
          by_cases c2 : p + 6 < len
          · have t5 : (p : Int) + 6 < (len : Int) := by omega
            have HK := Lib.hid (HNEW.out (noKind_len h4 (Or.inr (by rw [HLEN.out, HP.out]; exact c2))))
            go_wp2_with fail
            go_round
            case rel => exact ⟨j + 1, by go_num, by omega, HK⟩
            case measure => simp [RowKit.intOf]; omega
          · have t5 : ¬ (p : Int) + 6 < (len : Int) := by omega
            have u1 : (0 : Int) ≤ (p : Int) := by omega
            have u2 : (p : Int) ≤ (len : Int) := by omega
            have u3 : (p : Int) < (len : Int) := by omega
            by_cases c3 : L.take p = nam (j + 1)
            · have hst : (((strL L).extract 0 p).toList == (strL (nam (j + 1))).toList) = true := by rw [extract_strL, strL_eq]; exact decide_eq_true c3
              have hst2 : (!(((strL L).extract 0 p).toList == (strL (nam (j + 1))).toList)) = false := by rw [hst]; rfl
              by_cases c4 : B p = 46
              · have t6 : ((B p : Int) != 46) = false := by simp; omega
                have hsplit : L = nam (j + 1) ++ 46 :: L.drop (p + 1) := by
                  have := name_split (L := L) (k := j + 1) (by rw [HLEN.out, HP.out]; omega) (by rw [HP.out]; exact c3) (by
                    rw [HP.out]
                    have h1 := HBN.out p
                    rw [c4] at h1
                    exact UInt8.toNat_inj.1 h1.symm)
                  rw [HP.out] at this
                  exact this
                have HSP := Lib.hid hsplit
                have HST := Lib.hid c3
                have p1 : IntKind.i64.wrap ((p : Int) + 1) = ((p + 1 : Nat) : Int) := by rw [IntWalk.i64_in _ (by omega)]; omega
                clear c3 c4 hsplit HNEW
                go_wp2_with fail
                go_loop [7, 8] (fun n i => ∃ q m : Nat, n = .int .i64 (m : Int) ∧ i = .int .i64 (q : Int) ∧ p + 1 ≤ q ∧ q ≤ len ∧ m < 100000 ∧ (q < len → m < 10000) ∧ Hid (Digs ((L.drop (p + 1)).take (q - (p + 1))) ∧ m = numL ((L.drop (p + 1)).take (q - (p + 1))))) (fun _ i => len - (RowKit.intOf i).toNat)
                case atStart => exact ⟨p + 1, 0, rfl, by go_num, Nat.le_refl _, by omega, by omega, fun _ => by omega, by rw [Nat.sub_self]; exact ⟨fun c hc => by simp at hc, rfl⟩⟩
                case round =>
                  obtain ⟨q, m, rfl, rfl, hq1, hq2, hm1, hm2, hD⟩ := hrel
                  by_cases hql : q < len
                  · have v1 : (q : Int) < (len : Int) := by omega
                    have v2 : (0 : Int) ≤ (q : Int) := by omega
                    have hm3 := hm2 hql
                    have hxb : B q = (L.getD q 0).toNat := HBN.out q
                    have hx256 : B q < 256 := by rw [hxb]; exact UInt8.toNat_lt _
                    have hmem : Hid (L.getD q 0 ∈ L.drop (p + 1)) := by
                      have h1 : L.getD q 0 ∈ (L.drop (p + 1)).take (q + 1 - (p + 1)) := by rw [mid_snoc L hq1 (by rw [HLEN.out]; exact hql)]; simp
                      exact List.mem_of_mem_take h1
                    by_cases d1 : B q < 48
                    · have v3 : (B q : Int) < 48 := by omega
                      have HNO := Lib.hid (noName_digit h4 (by omega) HSP.out hmem.out (Or.inl (by rw [← hxb]; exact d1)))
                      clear hm2 hxb
                      go_wp2_with fail
                      refine bodyPost_ret (v := .tuple #[accV 0 0, .bool false]) (by simp [results, Tryd.results14, go_sem, z0, z1]) rfl (show RefAccTo w L _ _ from ⟨?_, Or.inr ⟨HNO.out, 0, 0, rfl⟩⟩)
                      exact ((HBEL.out.setCell (by simp) _).setCell (by simp) _)
                    · have v3 : ¬ (B q : Int) < 48 := by omega
                      by_cases d2 : 57 < B q
                      · have v4 : (57 : Int) < (B q : Int) := by omega
                        have HNO := Lib.hid (noName_digit h4 (by omega) HSP.out hmem.out (Or.inr (by rw [← hxb]; exact d2)))
                        clear hm2 hxb
                        go_wp2_with fail
                        refine bodyPost_ret (v := .tuple #[accV 0 0, .bool false]) (by simp [results, Tryd.results14, go_sem, z0, z1]) rfl (show RefAccTo w L _ _ from ⟨?_, Or.inr ⟨HNO.out, 0, 0, rfl⟩⟩)
                        exact ((HBEL.out.setCell (by simp) _).setCell (by simp) _)
                      · have v4 : ¬ (57 : Int) < (B q : Int) := by omega
                        obtain ⟨d, hd⟩ : ∃ d, B q - 48 = d := ⟨_, rfl⟩
                        have v5 : IntKind.u8.wrap ((B q : Int) - 48) = (d : Int) := by rw [IntKind.wrap_u8]; omega
                        have hd9 : d ≤ 9 := by omega
                        have v6 : IntKind.i64.wrap ((m : Int) * 10) = (m : Int) * 10 := IntWalk.i64_in _ (by omega)
                        have v7 : IntKind.i64.wrap ((m : Int) * 10 + (d : Int)) = (m : Int) * 10 + (d : Int) := IntWalk.i64_in _ (by omega)
                        have hDn : Hid (Digs ((L.drop (p + 1)).take (q + 1 - (p + 1))) ∧ m * 10 + d = numL ((L.drop (p + 1)).take (q + 1 - (p + 1)))) := by
                          rw [mid_snoc L hq1 (by rw [HLEN.out]; exact hql)]
                          refine ⟨digs_snoc hD.out.1 (by omega) (by omega), ?_⟩
                          rw [numL_snoc, ← hD.out.2, ← hxb, hd]
                        have hlt4 : Hid (q + 1 < len → m * 10 + d < 10000) := fun h => by
                          have h1 := numL_lt hDn.out.1
                          rw [← hDn.out.2, List.length_take, List.length_drop, HLEN.out] at h1
                          have h2 : 10 ^ min (q + 1 - (p + 1)) (len - (p + 1)) ≤ 10 ^ 4 := Nat.pow_le_pow_right (by omega) (by omega)
                          omega
                        clear hm2 hxb hd d1 d2
                        go_wp2_with fail
                        go_round
                        case rel => exact ⟨q + 1, m * 10 + d, by go_num, by go_num, by omega, by omega, by omega, hlt4.out, hDn⟩
                        case measure => simp [RowKit.intOf]; omega
                  · have hqe : q = len := by omega
                    have v1 : ¬ (q : Int) < (len : Int) := by omega
                    have HM : Hid (m = numL (L.drop (p + 1))) := by
                      have h1 := hD.out.2
                      rw [List.take_of_length_le (by rw [List.length_drop, HLEN.out]; omega)] at h1
                      exact h1
                    have HA2 := Lib.hid (At2.new W ((j : Int) + 1) (m : Int))
                    have HB2 := Lib.hid (HBEL.out.alloc (o := Obj.cells #[.int .i64 ((j : Int) + 1), .int .i64 (m : Int)] 23) HBEL.out.size)
                    have HA3 := Lib.hid (HA.out.alloc (Obj.cells #[.int .i64 ((j : Int) + 1), .int .i64 (m : Int)] 23))
                    clear hm2 hqe
                    go_wp2_with fail
                    refine (refMay_any ((j : Int) + 1) (m : Int) _).mono ?_
                    rintro e w3 ⟨rfl, hb3⟩
                    have HW3 := Lib.hid (((Below.refl W.heap.size W).alloc (Nat.le_refl _) (Obj.cells #[.int .i64 ((j : Int) + 1), .int .i64 (m : Int)] 23)).trans (hb3.mono (by simp)))
                    replace HA2 := Lib.hid (HA2.out.up hb3)
                    replace HB2 := Lib.hid (HB2.out.trans (hb3.mono HB2.out.size))
                    have HRES : Hid (∀ w', Below W.heap.size W w' → w'.cell? ⟨w.heap.size, 0, none⟩ = some (.int .i64 0) ∧ w'.cell? ⟨w.heap.size, 1, none⟩ = some (.int .i64 0) ∧ w'.frozen? ⟨w.heap.size, 0, none⟩ = false ∧ w'.frozen? ⟨w.heap.size, 1, none⟩ = false) := fun w' h =>
                      ⟨by rw [h.cell (p := ⟨w.heap.size, 0, none⟩) hlt0]; exact z0, by rw [h.cell (p := ⟨w.heap.size, 1, none⟩) hlt0]; exact z1, by rw [h.frozen (p := ⟨w.heap.size, 0, none⟩) hlt0]; exact f0, by rw [h.frozen (p := ⟨w.heap.size, 1, none⟩) hlt0]; exact f1⟩
                    clear hb3 HA3
                    by_cases hmay : MayK ((j : Int) + 1) (m : Int)
                    · have hcast : MayK (((j + 1 : Nat)) : Int) (m : Int) := by rw [show ((j + 1 : Nat) : Int) = (j : Int) + 1 by omega]; exact hmay
                      have hm65 : m ≤ 65536 := by unfold MayK at hmay; omega
                      simp only [hmay, decide_true]
                      obtain ⟨s0, hs0⟩ : ∃ s0, strL (nameL (j + 1) m) = s0 := ⟨_, rfl⟩
                      obtain ⟨ok, hok⟩ : ∃ ok, ((s0.toList == (strL L).toList)) = ok := ⟨_, rfl⟩
                      have HNM := Lib.hid (refName_any j m hlt hm65)
                      rw [hs0] at HNM
                      have HOK : Hid ((ok = true ∧ L = nameL (j + 1) m) ∨ (ok = false ∧ NoName L)) := by
                        rw [← hs0, strL_eq] at hok
                        by_cases he : nameL (j + 1) m = L
                        · rw [decide_eq_true he] at hok
                          exact Or.inl ⟨hok.symm, he.symm⟩
                        · rw [decide_eq_false he] at hok
                          refine Or.inr ⟨hok.symm, noName_same h4 (by omega) HSP.out ?_⟩
                          rw [← HM.out]; exact he
                      clear hs0 z0 z1 f0 f1
                      obtain ⟨a0, a1, -⟩ := HA2.out
                      obtain ⟨z0, z1, f0, f1⟩ := HRES.out _ HW3.out
                      go_wp2_with fail
                      go_region_law (first
                        | (go_simp; go_at_call 12; with_reducible refine (HNM.out _).mono ?_; rintro e w4 ⟨rfl, hb4⟩; obtain ⟨a0', a1'⟩ := acc_drew HA2 hb4; obtain ⟨z0', z1', f0', f1', hw4⟩ := res_drew HRES HW3 hb4; clear hb4))
                      all_goals
                        go_wp2_with fail
                        refine bodyPost_ret (v := .tuple #[accV ((j : Int) + 1) (m : Int), .bool ok]) (by simp [results, Tryd.results14, go_sem, z0', z1']) rfl (show RefAccTo w L _ _ from ⟨?_, ?_⟩)
                        · exact (((HB2.out.trans (hw4.mono HB2.out.size)).setCell (by simp) _).setCell (by simp) _)
                        · rcases HOK.out with ⟨h1, h2⟩ | ⟨h1, h2⟩
                          · exact Or.inl ⟨j + 1, m, hcast, h2, by rw [h1]; rfl⟩
                          · exact Or.inr ⟨h2, _, _, by rw [h1]⟩
                    · have HNO := Lib.hid (noName_may h4 (by omega) HSP.out (by rw [← HM.out, show ((j + 1 : Nat) : Int) = (j : Int) + 1 by omega]; exact hmay))
                      simp only [hmay, decide_false]
                      clear z0 z1 f0 f1
                      obtain ⟨a0, a1, -⟩ := HA2.out
                      obtain ⟨z0, z1, f0, f1⟩ := HRES.out _ HW3.out
                      go_wp2_with fail
                      go_region
                      all_goals
                        go_wp2_with fail
                        refine bodyPost_ret (v := .tuple #[accV ((j : Int) + 1) (m : Int), .bool false]) (by simp [results, Tryd.results14, go_sem, z0, z1]) rfl (show RefAccTo w L _ _ from ⟨?_, Or.inr ⟨HNO.out, _, _, rfl⟩⟩)
                        exact (((HB2.out.setCell (by simp) _).setCell (by simp) _).drew)
              · have t6 : ((B p : Int) != 46) = true := by simp; omega
                have HK := Lib.hid (HNEW.out (noKind_dot h4 (fun h => c4 (by rw [HBN.out, ← HP.out, h]; rfl))))
                clear c3
                go_wp2_with fail
                go_round
                case rel => exact ⟨j + 1, by go_num, by omega, HK⟩
                case measure => simp [RowKit.intOf]; omega
            · have hst : (((strL L).extract 0 p).toList == (strL (nam (j + 1))).toList) = false := by rw [extract_strL, strL_eq]; exact decide_eq_false c3
              have hst2 : (!(((strL L).extract 0 p).toList == (strL (nam (j + 1))).toList)) = true := by rw [hst]; rfl
              have HK := Lib.hid (HNEW.out (noKind_head h4 (by rw [HP.out]; exact c3)))
              clear c3
              go_wp2_with fail
              go_round
              case rel => exact ⟨j + 1, by go_num, by omega, HK⟩
              case measure => simp [RowKit.intOf]; omega
    · obtain rfl : j = 12 := by omega
      have HNO : Hid (NoName L) := noName_of hno.out
      go_wp2_with fail
      refine bodyPost_ret (v := .tuple #[accV 0 0, .bool false]) (by simp [results, Tryd.results14, go_sem, z0, z1]) rfl (show RefAccTo w L _ _ from ⟨?_, Or.inr ⟨HNO.out, 0, 0, rfl⟩⟩)
      exact ((HBEL.out.setCell (by simp) _).setCell (by simp) _)
end Go.Proofs.YtkiehlkmbkgenaaDoor
