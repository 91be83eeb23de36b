/- The walk of BookPlays: what is posted and reversed, entries, balances and the trial, whatever is done, one behind the other. -/
import Derived.Test.YtcdkgfjjgebcnaaDoorBookPair
import Derived.Test.YtcdkgfjjgebcnaaDoorBookRef8
import Derived.Test.YtcdkgfjjgebcnaaDoorBookSame
import Derived.Test.YtcdkgfjjgebcnaaDoorBookUp
namespace Go.Proofs.YtcdkgfjjgebcnaaDoor
open Go Go.RowKit
set_option linter.unusedVariables false

/-- books and their model, just made -/
theorem bm_zero {B : (Nat → Prop) → Addr → Bk → World → Prop} (C : BookC B) {p : Addr} {w W : World} (h : BHold B p Bk.zero w W) :
    BM B p W.heap.size Bk.zero (PlusK NoK W (W.alloc (Obj.cells #[.slice none 0 0, .slice none 0 0] 33))) w (W.alloc (Obj.cells #[.slice none 0 0, .slice none 0 0] 33)) := by
  have hsz : W.heap.size < (W.alloc (Obj.cells #[.slice none 0 0, .slice none 0 0] 33)).heap.size := by simp
  refine ⟨h.bs.more C ((Below.refl _ _).alloc (Nat.le_refl _) _), (mbook_zero W).mono (fun k hk => Or.inr ?_) (fun k hk => ?_), fine_zero⟩
  · rw [hk]; exact ⟨Nat.le_refl _, hsz⟩
  · rcases hk with hk | hk
    · exact hk.elim
    · exact hk.2

/-- what holds behind the deeds: books, their model, the account, the model's entries -/
structure PP (B : (Nat → Prop) → Addr → Bk → World → Prop) (p : Addr) (g : Nat) (s : Bk) (K : Nat → Prop) (w : World) (bx : Nat) (ak ao : Int) (aL : Option Addr) (cL : Nat) (W : World) : Prop where
  bm : BM B p g s K w W
  s3 : W.cell? ⟨g, 0, none⟩ = some (.slice aL s.L.length cL) ∧ W.cell? ⟨bx, 0, none⟩ = some (.int .i64 ak) ∧ W.cell? ⟨bx, 1, none⟩ = some (.int .i64 ao)
section
variable {B : (Nat → Prop) → Addr → Bk → World → Prop} {p : Addr} {g : Nat} {s : Bk} {K : Nat → Prop} {w : World} {bx : Nat} {ak ao : Int} {aL : Option Addr} {cL : Nat} {W W' : World}
theorem PP.up (C : BookC B) (h : PP B p g s K w bx ak ao aL cL W) (hb : Below W.heap.size W W') : PP B p g s K w bx ak ao aL cL W' :=
  ⟨h.bm.up C hb, (hb.cell (p := ⟨g, 0, none⟩) (cell_lt h.s3.1)).trans h.s3.1, (hb.cell (p := ⟨bx, 0, none⟩) (cell_lt h.s3.2.1)).trans h.s3.2.1, (hb.cell (p := ⟨bx, 1, none⟩) (cell_lt h.s3.2.2)).trans h.s3.2.2⟩
theorem PP.drew (C : BookC B) (h : PP B p g s K w bx ak ao aL cL W) : PP B p g s K w bx ak ao aL cL W.drew := h.up C (Below.drew (Below.refl _ _))
theorem PP.len (C : BookC B) (h : PP B p g s K w bx ak ao aL cL W) : Calls Tryd.prog 15 #[.pointer (some p)] W fun e w' => e = .returned (.int .i64 (s.L.length : Int)) ∧ PP B p g s K w bx ak ao aL cL w' := by
  refine (h.bm.bs.hold.len C).mono ?_
  rintro e w' ⟨rfl, -, hb⟩
  exact ⟨rfl, h.up C hb⟩
theorem PP.bal (C : BookC B) (h : PP B p g s K w bx ak ao aL cL W) (hk : in64 ak) (ho : in64 ao) : Calls Tryd.prog 16 #[.pointer (some p), .agg #[.int .i64 ak, .int .i64 ao]] W fun e w' => e = .returned (.int .i64 (s.bal ak ao)) ∧ PP B p g s K w bx ak ao aL cL w' := by
  refine (h.bm.bs.hold.balance C ak ao hk ho).mono ?_
  rintro e w' ⟨rfl, hb, -⟩
  exact ⟨rfl, h.up C hb⟩
theorem PP.rbal (C : BookC B) (h : PP B p g s K w bx ak ao aL cL W) : Calls Tryd.prog 17 #[.pointer (some ⟨g, 0, none⟩), .agg #[.int .i64 ak, .int .i64 ao]] W fun e w' => e = .returned (.int .i64 (s.bal ak ao)) ∧ PP B p g s K w bx ak ao aL cL w' := by
  refine (refBal10_any K g s ak ao W h.bm.mb h.bm.fine).mono ?_
  rintro e w' ⟨rfl, hb⟩
  exact ⟨rfl, h.up C hb⟩
theorem PP.trial (C : BookC B) (h : PP B p g s K w bx ak ao aL cL W) : Calls Tryd.prog 18 #[.pointer (some p)] W fun e w' => ∃ a c t, e = .returned (.slice a (List.length t) c) ∧ LinesAt w' a t.length t ∧ t.length ≤ 9223372036854775807 ∧ Trial s.bal t ∧ Below W.heap.size W w' ∧ PP B p g s K w bx ak ao aL cL w' := by
  refine (h.bm.bs.hold.trial C).mono ?_
  rintro e w' ⟨v, t, rfl, ⟨a, c, rfl, h1, h2, -⟩, ht, -, hb⟩
  exact ⟨a, c, t, rfl, h2, h1.2, ht, hb, h.up C hb⟩
theorem PP.rtrial (C : BookC B) (h : PP B p g s K w bx ak ao aL cL W) : Calls Tryd.prog 19 #[.pointer (some ⟨g, 0, none⟩)] W fun e w' => ∃ a c t, e = .returned (.slice a (List.length t) c) ∧ LinesAt w' a t.length t ∧ t.length ≤ 9223372036854775807 ∧ Trial s.bal t ∧ Below W.heap.size W w' ∧ PP B p g s K w bx ak ao aL cL w' := by
  refine (refTrial10_any K g s W h.bm.mb h.bm.fine).mono ?_
  rintro e w' ⟨v, t, rfl, hO, ht, hb⟩
  obtain ⟨a, c, rfl, h1, h2, -⟩ := hO.told
  exact ⟨a, c, t, rfl, h2, h1.2, ht, hb, h.up C hb⟩
theorem PP.same (C : BookC B) (h : PP B p g s K w bx ak ao aL cL W) {a b : Option Addr} {c d : Nat} {t u : List Ln} (ha : LinesAt W a t.length t) (hb : LinesAt W b u.length u) (hl : t.length ≤ 9223372036854775807) (ht : Trial s.bal t) (hu : Trial s.bal u) :
    Calls Tryd.prog 14 #[.slice a t.length c, .slice b u.length d] W fun e w' => e = .returned (.bool true) ∧ PP B p g s K w bx ak ao aL cL w' := by
  refine (same10_any a b t.length u.length c d t u W ha hb hl).mono ?_
  rintro e w' ⟨rfl, h1⟩
  exact ⟨by rw [trial_unique ht hu fun _ _ => rfl]; simp, h.up C h1⟩
theorem PP.below (h : PP B p g s K w bx ak ao aL cL W) : Below w.heap.size w W := h.bm.bs.below
end

set_option maxRecDepth 100000 in
set_option maxHeartbeats 8000000 in
theorem bookPlays_walk {B : (Nat → Prop) → Addr → Bk → World → Prop} (C : Hid (BookC B)) (a : Option Addr) (c : Nat) (vs : List DeedL) (ak ao n : Int) (w : World) (T : Hid (Kin w)) (ha : Deeds10 w a vs) (hn : vs.length ≤ c) (hcm : c ≤ maxLen) (hak : in64 ak) (hao : in64 ao) (hni : in64 n) :
    Calls Tryd.prog 3 #[.slice a vs.length c, .agg #[.int .i64 ak, .int .i64 ao], .int .i64 n] w fun e w' => e = .returned (.bool true) ∧ Below w.heap.size w w' := by
  have r1 := run_neq_errv_nil
  have g1 := guard_neq_errv_nil
  have r3 := fun (w : World) (a b : Int) => run_eql_code w a b
  have HA := Lib.hid ha
  have HI := Lib.hid (And.intro hak (And.intro hao hni))
  have hml : vs.length ≤ 9223372036854775807 := by unfold maxLen at hcm; omega
  have HSH := Lib.hid (fun w1 hb1 => short_any a c vs w1 (ha.up (w := w) (W := w1) hb1) hn hcm)
  obtain ⟨len, hlen⟩ : ∃ len, vs.length = len := ⟨_, rfl⟩
  have HL := Lib.hid hlen
  rw [hlen] at HSH hn hml ⊢
  clear ha hcm hlen hak hao hni
  obtain ⟨sh, hsh⟩ : ∃ sh, shortL vs = sh := ⟨_, rfl⟩
  have HS := Lib.hid hsh
  rw [hsh] at HSH
  clear hsh
  go_enter Tryd.func3, Tryd.ntmps3
  go_wp2_with fail
  obtain ⟨bx, hbx⟩ : ∃ bx, bx = w.heap.size := ⟨_, rfl⟩
  obtain ⟨w0, hw0⟩ : ∃ w0, w0 = w.alloc (Obj.cells #[.int .i64 ak, .int .i64 ao] 24) := ⟨_, rfl⟩
  rw [← hw0]
  have HB0 : Hid (Below w.heap.size w w0) := by rw [hw0]; exact (Below.refl _ _).alloc (Nat.le_refl _) _
  have HX0 : Hid (bx < w0.heap.size ∧ w0.cell? ⟨bx, 0, none⟩ = some (.int .i64 ak) ∧ w0.cell? ⟨bx, 1, none⟩ = some (.int .i64 ao)) := by rw [hw0, hbx]; exact ⟨by simp, by simp, by simp⟩
  clear hw0
  rw [← hbx]
  clear hbx
  refine (up10_any C _ (T.out.of HB0.out)).mono ?_
  rintro e w1 ⟨rfl, hb1⟩
  have HB1 := Lib.hid (HB0.out.trans (hb1.mono HB0.out.size))
  have HC1 := Lib.hid hb1
  clear hb1
  go_wp2_with fail
  refine (HSH.out _ HB1.out).mono ?_
  rintro e w2 ⟨rfl, hb2⟩
  replace HB1 := Lib.hid (HB1.out.trans (hb2.mono HB1.out.size))
  have HX : Hid (∀ W, Below w2.heap.size w2 W → W.cell? ⟨bx, 0, none⟩ = some (.int .i64 ak) ∧ W.cell? ⟨bx, 1, none⟩ = some (.int .i64 ao)) := fun W hW => by
    have h := HC1.out.trans ((hb2.trans (hW.mono hb2.size)).mono HC1.out.size)
    exact ⟨(h.cell (p := ⟨bx, 0, none⟩) HX0.out.1).trans HX0.out.2.1, (h.cell (p := ⟨bx, 1, none⟩) HX0.out.1).trans HX0.out.2.2⟩
  clear hb2 HX0 HC1 HB0
  have HA2 := Lib.hid (HA.out.up HB1.out)
  go_wp2_with fail
  have HT2 := Lib.hid (T.out.of HB1.out)
  refine (BHold.new C.out _ HT2.out).mono ?_
  rintro e w3 ⟨p, rfl, hp⟩
  have HP := Lib.hid hp
  clear hp
  cases sh with
  | false =>
    have HBL := Lib.hid (HB1.out.trans (HP.out.below.mono HB1.out.size))
    go_wp2_with fail
    go_ret
    exact ⟨by simp, HBL.out⟩
  | true =>
    have HZ := Lib.hid (bm_zero C.out HP.out)
    go_wp2_with fail
    obtain ⟨g, hg⟩ : ∃ g, g = w3.heap.size := ⟨_, rfl⟩
    obtain ⟨w4, hw4⟩ : ∃ w4, w4 = w3.alloc (Obj.cells #[.slice none 0 0, .slice none 0 0] 33) := ⟨_, rfl⟩
    rw [← hg, ← hw4] at HZ
    rw [← hg, ← hw4]
    clear hg hw4 HP
    go_loopw [11, 12] (fun i ok wr => ∃ (j : Nat) (s : Bk), i = .int .i64 (j : Int) ∧ j ≤ len ∧ j ≤ 40 ∧ Hid (∃ K, BM B p g s K w2 wr)) (fun i _ _ => 40 - (RowKit.intOf i).toNat)
    case atStart => exact ⟨0, _, rfl, by omega, by omega, _, HZ.out⟩
    case round =>
      obtain ⟨j, s, rfl, hj, hj40, hh⟩ := hrel
      obtain ⟨K, hK⟩ := hh.out
      have HK := Lib.hid hK
      clear hh hK
      by_cases hlt : j < len ∧ j < 40
      · obtain ⟨hl1, hl2⟩ := hlt
        have u1 : (j : Int) < (len : Int) := by omega
        have u2 : (j : Int) < 40 := by omega
        obtain ⟨gb, o, v, rfl, hv, hat, hok⟩ := HA2.out.get (j := j) (by rw [HL.out]; exact hl1)
        obtain ⟨c0, c1, c2⟩ := hat.up HK.out.bs.below
        have hv100 := shortL_at HS.out hl2 hv
        have HOK := Lib.hid hok
        clear hok hv hat
        go_wp2_with fail
        refine (one10_any C p g s K w2 _ HT2 v.k v.n v.a v.m v.c v.ls HK.out HOK.out.hk HOK.out.hn HOK.out.hl HOK.out.ho (by omega) HOK.out.hc HOK.out.hm HOK.out.hz).mono ?_
        rintro e w4 ⟨rfl, s', K', hB'⟩
        have HH : Hid (∃ K, BM B p g s' K w2 w4) := ⟨K', hB'⟩
        clear hB' HK c0 c1 c2
        go_wp2_with fail
        go_roundw
        case rel => exact ⟨j + 1, s', by go_num, by omega, by omega, HH⟩
        case measure => simp [RowKit.intOf]; omega
      · have hcase : (¬ (j : Int) < (len : Int)) ∨ ((j : Int) < (len : Int) ∧ ¬ (j : Int) < 40) := by omega
        obtain ⟨aL, cL, aD, cD, q0, -, q1, -, q2, hrows, -⟩ := HK.out.mb.head
        have h4096 := HK.out.fine.len
        have HROW := Lib.hid hrows
        have HPP : Hid (PP B p g s K w2 bx ak ao aL cL wr) := ⟨HK.out, q0, (HX.out _ HK.out.bs.below).1, (HX.out _ HK.out.bs.below).2⟩
        clear hlt hrows q0 HK
        rcases hcase with u1 | ⟨u1, u2⟩
        all_goals
          go_wp2_with fail
          refine (HPP.out.bm.bs.hold.entry C.out n HI.out.2.2).mono ?_
          rintro e w5 ⟨-, hb5, hor⟩
          have HP5 := Lib.hid (HPP.out.up C.out hb5)
          obtain ⟨z0, z1, z2⟩ := HP5.out.s3
          rcases hor with ⟨n0, n1, v, rfl, hv⟩ | ⟨hnn, a5, c5, rfl⟩
          · obtain ⟨a5, c5, rfl, hl5, hL5, -⟩ := hv
            obtain ⟨m, rfl⟩ : ∃ m : Nat, n = (m : Int) := ⟨n.toNat, by omega⟩
            rw [Int.toNat_natCast] at hl5 hL5 ⊢
            have hml : m < s.L.length := by omega
            obtain ⟨l, hl⟩ : ∃ l, s.L[m]? = some l := ⟨_, List.getElem?_eq_getElem hml⟩
            have hgl : s.L.getD m [] = l := by simp [List.getD, hl]
            rw [hgl] at hl5 hL5 ⊢
            obtain ⟨q, ar, cr, rfl, hr1, hr2, -⟩ := HROW.out m l hl
            have y1 : w5.cell? ⟨q, m, none⟩ = some (.slice ar l.length cr) := (hb5.cell (p := ⟨q, m, none⟩) (cell_lt hr1)).trans hr1
            have HR5 := Lib.hid (hr2.up hb5)
            have HL5 := Lib.hid hL5
            have n2 : ¬ (m : Int) < 0 := by omega
            have n3 : ¬ (s.L.length : Int) ≤ (m : Int) := by omega
            rw [errv_0]
            clear hL5 hr1 hr2 hb5 hgl hl
            go_wp2_with fail
            refine (same10_any a5 ar l.length l.length c5 cr l l w5 HL5.out HR5.out hl5.2).mono ?_
            rintro e w6 ⟨rfl, hb6⟩
            have hX := Lib.hid (HP5.out.up C.out hb6)
            have hdt : decide (l = l) = true := decide_eq_true rfl
            rw [hdt]
            clear hb6 z0 z1 z2 y1 HP5 HPP
            go_wp2_with fail
            go_region_held3 (fun w' => w'.cell? ⟨g, 0, none⟩ = some (.slice (some ⟨q, 0, none⟩) s.L.length cL) ∧ w'.cell? ⟨bx, 0, none⟩ = some (.int .i64 ak) ∧ w'.cell? ⟨bx, 1, none⟩ = some (.int .i64 ao))
              (first | exact hX.out.s3 | exact (hX.out.drew C.out).s3)
              (first
                | (go_at_call 15; with_reducible refine (PP.len C.out (by first | exact hX.out | exact hX.out.drew C.out)).mono ?_; rintro e w7 ⟨rfl, h7⟩; have hX := Lib.hid h7; clear h7)
                | (go_at_call 16; with_reducible refine (PP.bal C.out hX.out HI.out.1 HI.out.2.1).mono ?_; rintro e w7 ⟨rfl, h7⟩; have hX := Lib.hid h7; clear h7)
                | (go_at_call 17; with_reducible refine (PP.rbal C.out hX.out).mono ?_; rintro e w7 ⟨rfl, h7⟩; have hX := Lib.hid h7; clear h7)
                | (go_at_call 18; with_reducible refine (PP.trial C.out hX.out).mono ?_; rintro e w8 ⟨at1, ct1, t1, rfl, hl1, hn1, ht1, -, h7⟩; have hX := Lib.hid h7; have HL1 := Lib.hid hl1; have HN1 := Lib.hid hn1; have HT1 := Lib.hid ht1; clear h7 hl1 hn1 ht1)
                | (go_at_call 19; with_reducible refine (PP.rtrial C.out hX.out).mono ?_; rintro e w9 ⟨at2, ct2, t2, rfl, hl2, hn2, ht2, hb2, h7⟩; have HL3 := Lib.hid (HL1.out.up hb2); have hX := Lib.hid h7; have HL2 := Lib.hid hl2; have HT2 := Lib.hid ht2; clear h7 hl2 hn2 ht2 hb2)
                | (go_at_call 14; with_reducible refine (PP.same C.out hX.out HL3.out HL2.out HN1.out HT1.out HT2.out).mono ?_; rintro e w7 ⟨rfl, h7⟩; have hX := Lib.hid h7; clear h7))
            go_wp2_with fail
            go_ret
            exact ⟨by simp, HB1.out.trans (hX.out.below.mono HB1.out.size)⟩
          · have hcase2 : n < 0 ∨ (¬ n < 0 ∧ (s.L.length : Int) ≤ n) := by omega
            have hX := HP5
            have rq4 : ∀ W : World, (binOp .neq 39 (.iface 42 (.int .i64 4)) (.iface 42 (.int .i64 4))).run Tryd.prog W = .ok (.bool false) W := fun W => Lib.run_neq_iface_int W 4 4 err_under code_comp code_under
            rw [show errv 4 = .iface 42 (.int .i64 4) from rfl]
            clear hb5 hnn HPP HP5
            rcases hcase2 with n2 | ⟨n2, n3⟩
            all_goals
              go_wp2_with fail
              go_region_held3 (fun w' => w'.cell? ⟨g, 0, none⟩ = some (.slice aL s.L.length cL) ∧ w'.cell? ⟨bx, 0, none⟩ = some (.int .i64 ak) ∧ w'.cell? ⟨bx, 1, none⟩ = some (.int .i64 ao))
                (first | exact hX.out.s3 | exact (hX.out.drew C.out).s3)
                (first
                  | (go_at_call 15; with_reducible refine (PP.len C.out (by first | exact hX.out | exact hX.out.drew C.out)).mono ?_; rintro e w7 ⟨rfl, h7⟩; have hX := Lib.hid h7; clear h7)
                  | (go_at_call 16; with_reducible refine (PP.bal C.out hX.out HI.out.1 HI.out.2.1).mono ?_; rintro e w7 ⟨rfl, h7⟩; have hX := Lib.hid h7; clear h7)
                  | (go_at_call 17; with_reducible refine (PP.rbal C.out hX.out).mono ?_; rintro e w7 ⟨rfl, h7⟩; have hX := Lib.hid h7; clear h7)
                  | (go_at_call 18; with_reducible refine (PP.trial C.out hX.out).mono ?_; rintro e w8 ⟨at1, ct1, t1, rfl, hl1, hn1, ht1, -, h7⟩; have hX := Lib.hid h7; have HL1 := Lib.hid hl1; have HN1 := Lib.hid hn1; have HT1 := Lib.hid ht1; clear h7 hl1 hn1 ht1)
                  | (go_at_call 19; with_reducible refine (PP.rtrial C.out hX.out).mono ?_; rintro e w9 ⟨at2, ct2, t2, rfl, hl2, hn2, ht2, hb2, h7⟩; have HL3 := Lib.hid (HL1.out.up hb2); have hX := Lib.hid h7; have HL2 := Lib.hid hl2; have HT2 := Lib.hid ht2; clear h7 hl2 hn2 ht2 hb2)
                  | (go_at_call 14; with_reducible refine (PP.same C.out hX.out HL3.out HL2.out HN1.out HT1.out HT2.out).mono ?_; rintro e w7 ⟨rfl, h7⟩; have hX := Lib.hid h7; clear h7))
              go_wp2_with fail
              go_ret
              exact ⟨by simp, HB1.out.trans (hX.out.below.mono HB1.out.size)⟩
end Go.Proofs.YtcdkgfjjgebcnaaDoor
