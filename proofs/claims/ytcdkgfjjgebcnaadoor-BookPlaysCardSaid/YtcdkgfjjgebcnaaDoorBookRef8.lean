/- The document's answer of layer 10: the trial. -/
import Derived.Test.YtcdkgfjjgebcnaaDoorBookRef4
import Derived.Test.YtcdkgfjjgebcnaaDoorBookTri
namespace Go.Proofs.YtcdkgfjjgebcnaaDoor
open Go Go.RowKit
set_option linter.unusedVariables false

theorem build_ac8 (k o : Int) (w : World) : (Instr.build 24 #[(0, .int .i64 k), (1, .int .i64 o)]).run Tryd.prog w = .ok (.agg #[.int .i64 k, .int .i64 o]) w := run_build w 24 _ _ (by kernel_rfl)

/-- what the trial's walk reads of the model's books -/
structure TriAt (w : World) (g : Nat) (s : Bk) (NL : Nat) (aL : Option Addr) (cL : Nat) : Prop where
  c0 : ∀ W, Below w.heap.size w W → W.cell? ⟨g, 0, none⟩ = some (.slice aL NL cL)
  row : ∀ j l, s.L[j]? = some l → ∃ q a c, aL = some ⟨q, 0, none⟩ ∧ l.length ≤ c ∧ c ≤ maxLen ∧ ∀ W, Below w.heap.size w W → W.cell? ⟨q, j, none⟩ = some (.slice a l.length c) ∧ LinesAt W a l.length l

theorem tri_at {M : Nat → Prop} {g : Nat} {s : Bk} {w : World} (h : MBook M g s w) : ∃ aL cL, TriAt w g s s.L.length aL cL ∧ s.L.length ≤ cL := by
  obtain ⟨aL, cL, aD, cD, h0, -, hc, -, -, hent, -⟩ := h.head
  refine ⟨aL, cL, ⟨fun W hW => by rw [hW.cell (p := ⟨g, 0, none⟩) (cell_lt h0)]; exact h0, fun j l hj => ?_⟩, hc⟩
  obtain ⟨q, a, c, e1, e2, e3, e4, e5, -⟩ := hent j l hj
  exact ⟨q, a, c, e1, e4, e5, fun W hW => ⟨by rw [hW.cell (p := ⟨q, j, none⟩) (cell_lt e2)]; exact e2, e3.up hW⟩⟩

set_option maxRecDepth 100000 in
set_option maxHeartbeats 16000000 in
theorem refTrial10_any (M : Nat → Prop) (g : Nat) (s : Bk) (w : World) (hM : MBook M g s w) (hf : Fine s) :
    Calls Tryd.prog 19 #[.pointer (some ⟨g, 0, none⟩)] w fun e w' => ∃ v t, e = .returned v ∧ OwnsL w.heap.size v t w' ∧ Trial s.bal t ∧ Below w.heap.size w w' := by
  have rb := build_ln3
  have ra := build_ac8
  have HM := Lib.hid (fun W (hW : Below w.heap.size w W) => hM.up hW)
  have HF := Lib.hid hf
  obtain ⟨aL, cL, hT, hcL⟩ := tri_at hM
  have h4096 := hf.len
  have htot := allL_len s.L (fun l hl => (hf.row l hl).1)
  obtain ⟨NL, hNL⟩ : ∃ NL, s.L.length = NL := ⟨_, rfl⟩
  have HNL := Lib.hid hNL
  rw [hNL] at hT hcL h4096 htot
  have HT := Lib.hid hT
  have HTOT := Lib.hid htot
  clear hM hf hNL hT htot
  go_enter Tryd.func19, Tryd.ntmps19
  go_wp2_with fail
  go_loopw [3, 4] (fun v k wr => ∃ (κ : Nat) (t : List Ln), k = .int .i64 (κ : Int) ∧ 1 ≤ κ ∧ κ ≤ 13 ∧ Hid (OwnsL w.heap.size v t wr ∧ Upto s κ (-1) t ∧ t.length ≤ κ * 140000) ∧ Hid (Below w.heap.size w wr)) (fun _ k _ => 14 - (RowKit.intOf k).toNat)
  case atStart => exact ⟨1, [], rfl, by omega, by omega, ⟨ownsL_nil _ _, upto_first HF.out.may, by simp⟩, Below.refl _ _⟩
  case round =>
    obtain ⟨κ, t, rfl, hκ1, hκ2, hv, hbel⟩ := hrel
    by_cases hk : κ ≤ 12
    · have u1 : (κ : Int) ≤ 12 := by omega
      have hN0 : Hid (0 + cntO (κ : Int) (-1) (allL s.L) ≤ 32 * NL) := by
        show _ ≤ _
        have := cntO_le (κ : Int) (-1) (allL s.L)
        have := HTOT.out
        omega
      go_wp2_with fail
      go_loopw [3, 5, 6] (fun v l n wr => ∃ (last : Int) (m : Nat) (t : List Ln), l = .int .i64 last ∧ n = .int .i64 (m : Int) ∧ -1 ≤ last ∧ last ≤ 9223372036854775807 ∧ m ≤ 32 * NL ∧ Hid (m + cntO (κ : Int) last (allL s.L) ≤ 32 * NL) ∧ Hid (OwnsL w.heap.size v t wr ∧ Upto s κ last t ∧ t.length ≤ κ * 140000 + m) ∧ Hid (Below w.heap.size w wr)) (fun _ _ n _ => 32 * NL + 1 - (RowKit.intOf n).toNat)
      case atStart => exact ⟨-1, 0, t, rfl, rfl, by omega, by omega, by omega, hN0, ⟨hv.out.1, hv.out.2.1, Nat.le_trans hv.out.2.2 (Nat.le_add_right _ _)⟩, hbel⟩
      case round =>
        obtain ⟨last, m, t, rfl, rfl, hl1, hl2, hm, hcnt, hv, hbel⟩ := hrel
        have c0 := HT.out.c0 _ hbel.out
        have u2 : (m : Int) ≤ 32 * (NL : Int) := by omega
        have g0 : IntKind.i64.wrap (32 * (NL : Int)) = 32 * (NL : Int) := IntWalk.i64_in _ (by omega)
        obtain ⟨W1, rfl⟩ : ∃ W1, W1 = wr := ⟨_, rfl⟩
        go_wp2_with fail
        go_loopw [7, 8] (fun x i wr => ∃ (j : Nat) (r : Int), i = .int .i64 (j : Int) ∧ x = .int .i64 r ∧ j ≤ NL ∧ -1 ≤ r ∧ r ≤ 9223372036854775807 ∧ Hid (IsNext κ last (allL (s.L.take j)) r) ∧ Hid (Below W1.heap.size W1 wr)) (fun _ i _ => NL - (RowKit.intOf i).toNat)
        case atStart => exact ⟨0, -1, rfl, rfl, by omega, by omega, by omega, by rw [List.take_zero]; exact isNext_nil _ _, Below.refl _ _⟩
        case round =>
          obtain ⟨j, r, rfl, rfl, hj, hr1, hr2, hnx, hb2⟩ := hrel
          have hbw := hbel.out.trans (hb2.out.mono hbel.out.size)
          have c0 := HT.out.c0 _ hbw
          by_cases hjl : j < NL
          · have u3 : (j : Int) < (NL : Int) := by omega
            obtain ⟨l, hl⟩ : ∃ l, s.L[j]? = some l := ⟨_, List.getElem?_eq_getElem (by rw [HNL.out]; exact hjl)⟩
            obtain ⟨q, al, cl, rfl, hlc, hlm, hrow⟩ := HT.out.row j l hl
            have HROW := Lib.hid hrow
            have HLJ := Lib.hid hl
            have hlm' : l.length ≤ 9223372036854775807 := by unfold maxLen at hlm; omega
            have HMEM := Lib.hid (List.mem_of_getElem? hl)
            obtain ⟨W2, rfl⟩ : ∃ W2, W2 = wr := ⟨_, rfl⟩
            clear hl hrow hlm
            go_wp2_with fail
            go_loopw [7, 9] (fun x i wr => ∃ (i' : Nat) (r : Int), i = .int .i64 (i' : Int) ∧ x = .int .i64 r ∧ i' ≤ l.length ∧ -1 ≤ r ∧ r ≤ 9223372036854775807 ∧ Hid (IsNext κ last (allL (s.L.take j) ++ l.take i') r) ∧ Hid (Below W1.heap.size W1 wr)) (fun _ i _ => l.length - (RowKit.intOf i).toNat)
            case atStart => exact ⟨0, r, rfl, rfl, by omega, hr1, hr2, by rw [List.take_zero, List.append_nil]; exact hnx, hb2⟩
            case round =>
              obtain ⟨i, r, rfl, rfl, hi, hr1, hr2, hnx, hb2⟩ := hrel
              have hbw := hbel.out.trans (hb2.out.mono hbel.out.size)
              have c0 := HT.out.c0 _ hbw
              obtain ⟨cr, hli⟩ := HROW.out _ hbw
              by_cases hil : i < l.length
              · have u4 : (i : Int) < (l.length : Int) := by omega
                obtain ⟨qq, off, x, rfl, hx, hxm, x0, x1, x2⟩ := hli.get hil
                have hstep := isNext_step (κ := κ) (x := x) hl1 hnx.out
                have e1 : allL (s.L.take j) ++ l.take i ++ [x] = allL (s.L.take j) ++ l.take (i + 1) := by rw [List.take_add_one, hx, List.append_assoc]; rfl
                rw [e1] at hstep
                have HSTEP := Lib.hid hstep
                have hmayx := HF.out.may x (allL_mem HMEM.out hxm)
                have ho64 : 0 ≤ x.o ∧ x.o ≤ 65536 := by unfold MayK at hmayx; omega
                have HBN : Hid (∀ o, Below W1.heap.size W1 (wr.alloc o)) := fun o => hb2.out.alloc hb2.out.size o
                have hcase : ((x.k == (κ : Int)) = false ∧ stepO κ last r x = r) ∨ ((x.k == (κ : Int)) = true ∧ x.o ≤ last ∧ stepO κ last r x = r) ∨ ((x.k == (κ : Int)) = true ∧ last < x.o ∧ r < 0 ∧ stepO κ last r x = x.o) ∨
                    ((x.k == (κ : Int)) = true ∧ last < x.o ∧ 0 ≤ r ∧ x.o < r ∧ stepO κ last r x = x.o) ∨ ((x.k == (κ : Int)) = true ∧ last < x.o ∧ 0 ≤ r ∧ r ≤ x.o ∧ stepO κ last r x = r) := by
                  unfold stepO
                  by_cases h1 : x.k = (κ : Int)
                  · have : (x.k == (κ : Int)) = true := by simpa using h1
                    rw [this]
                    by_cases h2 : last < x.o
                    · by_cases h3 : r < 0
                      · right; right; left; exact ⟨rfl, h2, h3, by rw [if_pos ⟨h1, h2, Or.inl h3⟩]⟩
                      · by_cases h4 : x.o < r
                        · right; right; right; left; exact ⟨rfl, h2, by omega, h4, by rw [if_pos ⟨h1, h2, Or.inr h4⟩]⟩
                        · right; right; right; right; exact ⟨rfl, h2, by omega, by omega, by rw [if_neg (by omega)]⟩
                    · right; left; exact ⟨rfl, by omega, by rw [if_neg (by omega)]⟩
                  · left
                    exact ⟨by simpa using h1, by rw [if_neg (by omega)]⟩
                clear hx hxm hstep e1 hmayx hli hnx
                rcases hcase with ⟨s1, s2⟩ | ⟨s1, s3, s2⟩ | ⟨s1, s3, s4, s2⟩ | ⟨s1, s3, s4, s5, s2⟩ | ⟨s1, s3, s4, s5, s2⟩
                all_goals
                  rw [s2] at HSTEP
                  clear s2
                  go_wp2_with fail
                  go_roundw
                  case rel => exact ⟨i + 1, _, by go_num, rfl, by omega, by omega, by omega, HSTEP, HBN.out _⟩
                  case measure => simp [RowKit.intOf]; omega
              · have u4 : ¬ (i : Int) < (l.length : Int) := by omega
                have hnew : Hid (IsNext κ last (allL (s.L.take (j + 1))) r) := by
                  have h1 := hnx.out
                  rw [List.take_of_length_le (l := l) (by omega), ← allL_take HLJ.out] at h1
                  exact h1
                clear hil hli hnx
                go_wp2_with fail
                go_roundw
                case rel => exact ⟨j + 1, r, by go_num, rfl, by omega, hr1, hr2, hnew, hb2⟩
                case measure => simp [RowKit.intOf]; omega
          · have u3 : ¬ (j : Int) < (NL : Int) := by omega
            have hall : Hid (IsNext κ last (allL s.L) r) := by
              have h1 := hnx.out
              rw [List.take_of_length_le (l := s.L) (by rw [HNL.out]; omega)] at h1
              exact h1
            have HBW := Lib.hid hbw
            have HOWN := Lib.hid (ownsL_up hv.out.1 hb2.out)
            clear hnx hjl hbw
            by_cases hneg : r < 0
            · have hend : Hid (Upto s ((κ + 1 : Nat) : Int) (-1) t) := by
                have h1 := upto_kind HF.out.may hv.out.2.1 (fun x hx hk => by
                  rcases hall.out with ⟨_, h⟩ | ⟨h, _⟩
                  · exact h x hx hk
                  · omega)
                have e : ((κ + 1 : Nat) : Int) = (κ : Int) + 1 := by omega
                rw [e]; exact h1
              have hlen : t.length ≤ (κ + 1) * 140000 := by have := hv.out.2.2; omega
              clear hall
              go_wp2_with fail
              go_roundw
              case rel => exact ⟨κ + 1, t, by go_num, by omega, by omega, ⟨HOWN.out, hend.out, hlen⟩, HBW⟩
              case measure => simp [RowKit.intOf]; omega
            · have u5 : ¬ r < 0 := hneg
              obtain ⟨hz0, hz1⟩ := upto_more hv.out.2.1 hall.out (by omega)
              have HZ0 := Lib.hid hz0
              have HZ1 := Lib.hid hz1
              have hlr : last < r := by
                rcases hall.out with ⟨h, _⟩ | ⟨h, _⟩
                · omega
                · exact h
              have hcn : Hid (cntO (κ : Int) r (allL s.L) + 1 ≤ cntO (κ : Int) last (allL s.L)) := by
                rcases hall.out with ⟨h, _⟩ | ⟨_, h, _⟩
                · omega
                · exact cntO_lt _ hlr h
              have hm1 : m + 1 ≤ 32 * NL := by have := hcnt.out; have := hcn.out; omega
              have hcnt1 : Hid (m + 1 + cntO (κ : Int) r (allL s.L) ≤ 32 * NL) := by show _ ≤ _; have := hcnt.out; have := hcn.out; omega
              have hA := Lib.hid (HBW.out.alloc (o := Obj.cells #[.int .i64 (κ : Int), .int .i64 r] 24) HBW.out.size)
              have HO2 := Lib.hid (ownsL_up HOWN.out ((Below.refl _ _).alloc (Nat.le_refl _) (Obj.cells #[.int .i64 (κ : Int), .int .i64 r] 24)))
              have hc0 : (wr.alloc (Obj.cells #[.int .i64 (κ : Int), .int .i64 r] 24)).cell? ⟨wr.heap.size, 0, none⟩ = some (.int .i64 (κ : Int)) := by simp
              have hc1 : (wr.alloc (Obj.cells #[.int .i64 (κ : Int), .int .i64 r] 24)).cell? ⟨wr.heap.size, 1, none⟩ = some (.int .i64 r) := by simp
              have hlen : t.length ≤ κ * 140000 + m := hv.out.2.2
              clear hz0 hz1 hcnt hcn hv
              go_wp2_with fail
              refine (refBal10_any M g s (κ : Int) r _ (HM.out _ hA.out) HF.out).mono ?_
              rintro e w3 ⟨rfl, hb3⟩
              replace HO2 := Lib.hid (ownsL_up HO2.out hb3)
              have HB3 := Lib.hid (hA.out.trans (hb3.mono hA.out.size))
              have d0 : w3.cell? ⟨wr.heap.size, 0, none⟩ = some (.int .i64 (κ : Int)) := by rw [hb3.cell (p := ⟨wr.heap.size, 0, none⟩) (by simp)]; exact hc0
              have d1 : w3.cell? ⟨wr.heap.size, 1, none⟩ = some (.int .i64 r) := by rw [hb3.cell (p := ⟨wr.heap.size, 1, none⟩) (by simp)]; exact hc1
              obtain ⟨V, hV⟩ : ∃ V, s.bal (κ : Int) r = V := ⟨_, rfl⟩
              rw [hV] at HZ0 HZ1 ⊢
              clear hb3 hc0 hc1 hA hall
              by_cases hV0 : V = 0
              · have u6 : (V != 0) = false := by simp [hV0]
                have hu := Lib.hid (HZ0.out hV0)
                clear hV hV0
                go_wp2_with fail
                go_roundw
                case rel => exact ⟨r, m + 1, t, rfl, by go_num, by omega, by omega, by omega, hcnt1, ⟨HO2.out, hu.out, by omega⟩, HB3⟩
                case measure => simp [RowKit.intOf]; omega
              · have u6 : (V != 0) = true := by simp [hV0]
                have hu := Lib.hid (HZ1.out hV0)
                have HLEN : Hid (t.length + 1 ≤ 1000000000) := by show _ ≤ _; omega
                clear hV hV0
                go_wp2_with (at_builtin; refine wpList_append_ln rfl (.tmp 92) (.tmp 96) rfl w.heap.size _ t rfl ((ownsL_up HO2.out ((Below.refl _ _).alloc (Nat.le_refl _) _))) _ 1 1 [⟨(κ : Int), r, V⟩] rfl (fun h => by cases h) (one_line _ ⟨(κ : Int), r, V⟩) HLEN.out (Nat.le_trans HB3.out.size (by simp)) ?_; intro v4 w4 o4 q4 r4 l4)
                have HB4 := Lib.hid ((HB3.out.alloc HB3.out.size _).grown q4 (Nat.le_trans HB3.out.size (by simp)) (fun k hk => HO2.out.blk k hk))
                have HO4 := Lib.hid o4
                clear o4 q4 r4 l4
                go_wp2_with fail
                go_roundw
                case rel => exact ⟨r, m + 1, _, rfl, by go_num, by omega, by omega, by omega, hcnt1, ⟨HO4.out, hu.out, by simp; omega⟩, HB4⟩
                case measure => simp [RowKit.intOf]; omega
    · have u1 : ¬ (κ : Int) ≤ 12 := by omega
      have hfin : Hid (Trial s.bal t) := by
        have h1 := hv.out.2.1
        rw [show (κ : Int) = 13 by omega] at h1
        exact upto_all HF.out.may h1
      have HOWN := Lib.hid hv.out.1
      clear hk hv
      go_wp2_with fail
      go_ret
      exact ⟨_, rfl, t, HOWN.out, hfin.out, hbel.out⟩
end Go.Proofs.YtcdkgfjjgebcnaaDoor
