/- The document's answer of layer 10: the balance of an account, by all entries and some more lines. -/
import Derived.Test.YtcdkgfjjgebcnaaDoorBookRef1
import Derived.Test.YtcdkgfjjgebcnaaDoorNumVar
import Derived.LaidEql
namespace Go.Proofs.YtcdkgfjjgebcnaaDoor
open Go Go.RowKit
set_option linter.unusedVariables false

theorem run_eql_ac (w : World) (k o k' o' : Int) : (binOp .eql 24 (.agg #[.int .i64 k, .int .i64 o]) (.agg #[.int .i64 k', .int .i64 o'])).run Tryd.prog w = .ok (.bool (k == k' && o == o')) w := by
  have u3 := Tryd.underlying3
  have a3 := Tryd.isAgg3
  have z3 := Tryd.sizeOf3
  have hS : Tryd.prog.underlying 24 = some (.struct (Tryd.prog.fieldsOf 24)) := by kernel_rfl
  have hp : Tryd.prog.stoodInHeld 24 = false := by kernel_rfl
  rw [run_eql_struct, show (10000 : Nat) = 9999 + 1 from rfl, run_equalIn_agg w 9999 24 _ _ hS hp]
  simp only [Program.fieldsOf, Tryd.underlying24]
  go_simp
  by_cases h1 : k = k' <;> by_cases h2 : o = o' <;> simp [h1, h2]
theorem run_guard_ac (w : World) (x z : Operand) (xs ys : Array Value) : (eqGuard .eql 24 x z (.agg xs) (.agg ys)).run Tryd.prog w = .ok () w := run_eqGuard_agg w .eql 24 x z xs ys (by kernel_rfl)

def AllV (l : List Ln) : Prop := ∀ x ∈ l, in64 x.v
theorem balL_bound (k o : Int) : ∀ (l : List Ln), AllV l → (balL k o l).natAbs ≤ l.length * 9223372036854775808 := by
  intro l
  induction l with
  | nil => intro _; simp [balL]
  | cons a l ih =>
    intro h
    have h1 := h a (by simp)
    have h2 := ih (fun x hx => h x (by simp [hx]))
    unfold in64 at h1
    simp only [balL, List.length_cons]
    split <;> omega
theorem small_balL (k o : Int) (l : List Ln) (h : AllV l) (hl : l.length ≤ 9223372036854775807) : Small (balL k o l) := by
  have h1 := balL_bound k o l h
  have h2 : l.length * 9223372036854775808 ≤ 9223372036854775807 * 9223372036854775808 := Nat.mul_le_mul_right _ hl
  have h3 : 9223372036854775807 * 9223372036854775808 < 65536 ^ 60 := by decide
  exact Nat.lt_of_le_of_lt (Nat.le_trans h1 h2) h3
theorem small_v {n : Int} (h : in64 n) : Small n := by
  have h3 : 9223372036854775808 < 65536 ^ 60 := by decide
  unfold Small in64 at *
  omega
theorem balL_take {k o : Int} {l : List Ln} {j : Nat} {x : Ln} (h : l[j]? = some x) : balL k o (l.take (j + 1)) = balL k o (l.take j) + (if x.k = k ∧ x.o = o then x.v else 0) := by
  rw [List.take_add_one, h, balL_append]
  simp [balL]
theorem allL_take {L : List (List Ln)} {i : Nat} {l : List Ln} (h : L[i]? = some l) : allL (L.take (i + 1)) = allL (L.take i) ++ l := by
  rw [List.take_add_one, h, allL_append]
  simp [allL]
theorem allL_mem {L : List (List Ln)} {l : List Ln} {x : Ln} (hl : l ∈ L) (hx : x ∈ l) : x ∈ allL L := by
  induction L with
  | nil => cases hl
  | cons a L ih =>
    simp only [allL, List.mem_append]
    rcases List.mem_cons.1 hl with rfl | hl
    · exact Or.inl hx
    · exact Or.inr (ih hl)
theorem mem_allL_take {L : List (List Ln)} {i : Nat} {x : Ln} (h : x ∈ allL (L.take i)) : x ∈ allL L := by
  have e : L = L.take i ++ L.drop i := (List.take_append_drop i L).symm
  rw [e, allL_append]
  exact List.mem_append_left _ h
theorem allL_take_len (L : List (List Ln)) (i : Nat) : (allL (L.take i)).length ≤ (allL L).length := by
  have e : L = L.take i ++ L.drop i := (List.take_append_drop i L).symm
  have h := congrArg (fun L => (allL L).length) e
  simp only [allL_append, List.length_append] at h
  omega

theorem num_other10 {w : World} {N N' : Nat} {n n' : Int} {a a' : Option Addr} {len cap len' cap' : Nat} {m m' : Bool} (h : NumVar w N n a len cap m) (h' : NumVar w N' n' a' len' cap' m') (hne : N ≠ N') (u v : Value) :
    NumVar ((w.setCell ⟨N', 0, none⟩ u).setCell ⟨N', 1, none⟩ v) N n a len cap m := by
  have hblk := h'.far h.num
  have h0 := h.c0
  have h1 := h.c1
  have hf0 := h.f0
  have hf1 := h.f1
  have hsz := h.sz
  obtain ⟨a2, l2, c2, ds, he, hc, hrest⟩ := h.num
  simp only [Value.agg.injEq, Array.mk.injEq, List.cons.injEq, Value.slice.injEq, Value.bool.injEq, and_true] at he
  obtain ⟨⟨rfl, rfl, rfl⟩, rfl⟩ := he
  exact ⟨by rw [two_far hne]; exact h0, by rw [two_far hne]; exact h1, by rw [World.frozen?_setCell, World.frozen?_setCell]; exact hf0, by rw [World.frozen?_setCell, World.frozen?_setCell]; exact hf1,
    ⟨a, len, cap, ds, rfl, cells_two hc hblk _ _, hrest⟩, fun o ho => by rw [two_far hne]; exact hsz o ho⟩
theorem row_beyond {g : Nat} {e : TypeId} {xs : List Value} {w : World} (h : Row g e xs w) {j : Nat} (hj : xs.length ≤ j) : w.cell? ⟨g, j, none⟩ = none := by
  unfold Row at h
  simp [World.cell?, h, hj]
theorem num_zero10 {g : Nat} {w : World} (h : Row g 54 [.slice none 0 0, .bool false] w) : NumVar w g 0 none 0 0 false :=
  ⟨h.cell (j := 0) (by simp), h.cell (j := 1) (by simp), h.frozen 0, h.frozen 1, ⟨none, 0, 0, [], rfl, ⟨rfl, Or.inl rfl⟩, nil_none, Nat.le_refl _, canon_nil, by simp [val]⟩, fun q hq => row_beyond h (by simpa using hq)⟩

/-- a sum on its way: the account's box, the sum's variable, the result's cell -/
structure SumAt (w : World) (k o n : Int) (a : Option Addr) (l c : Nat) (m : Bool) (wr : World) : Prop where
  num : NumVar wr (w.heap.size + 1 + 1) n a l c m
  b0 : wr.cell? ⟨w.heap.size, 0, none⟩ = some (.int .i64 k)
  b1 : wr.cell? ⟨w.heap.size, 1, none⟩ = some (.int .i64 o)
  res : NumVar wr (w.heap.size + 1) 0 none 0 0 false
  below : Below w.heap.size w wr
section
variable {w : World} {k o n : Int} {a : Option Addr} {l c : Nat} {m : Bool} {wr w6 : World}
theorem SumAt.call (h : SumAt w k o n a l c m wr) (hb : Below wr.heap.size wr w6) : SumAt w k o n a l c m w6 := by
  have h0 : w.heap.size < wr.heap.size := cell_lt h.b0
  exact ⟨h.num.up hb, by rw [hb.cell (p := ⟨w.heap.size, 0, none⟩) h0]; exact h.b0, by rw [hb.cell (p := ⟨w.heap.size, 1, none⟩) h0]; exact h.b1, h.res.up hb, h.below.trans (hb.mono h.below.size)⟩
theorem SumAt.drew (h : SumAt w k o n a l c m wr) : SumAt w k o n a l c m wr.drew := h.call (Below.refl _ _).drew
theorem SumAt.drewN (h : SumAt w k o n a l c m wr) (q : Nat) : SumAt w k o n a l c m (wr.drewN q) := h.call (below_drewN (Below.refl _ _) q)
theorem SumAt.put {n' : Int} {a' : Option Addr} {l' c' : Nat} {m' : Bool} (h : SumAt w k o n a l c m wr) (hn : NumAt wr (.agg #[.slice a' l' c', .bool m']) n') :
    SumAt w k o n' a' l' c' m' ((wr.setCell ⟨w.heap.size + 1 + 1, 0, none⟩ (.slice a' l' c')).setCell ⟨w.heap.size + 1 + 1, 1, none⟩ (.bool m')) := by
  have hc : ∀ b i, b ≠ w.heap.size + 1 + 1 → ((wr.setCell ⟨w.heap.size + 1 + 1, 0, none⟩ (.slice a' l' c')).setCell ⟨w.heap.size + 1 + 1, 1, none⟩ (.bool m')).cell? ⟨b, i, none⟩ = wr.cell? ⟨b, i, none⟩ := fun b i hb => by
    rw [World.cell?_setCell_other _ _ _ _ (fun e => hb (by cases e; rfl)), World.cell?_setCell_other _ _ _ _ (fun e => hb (by cases e; rfl))]
  exact ⟨h.num.put hn, by rw [hc _ _ (by omega)]; exact h.b0, by rw [hc _ _ (by omega)]; exact h.b1, num_other10 h.res h.num (by omega) _ _, (h.below.setCell (show w.heap.size ≤ w.heap.size + 1 + 1 by omega) _).setCell (show w.heap.size ≤ w.heap.size + 1 + 1 by omega) _⟩
end

set_option maxRecDepth 100000 in
set_option maxHeartbeats 16000000 in
theorem refSum10_any (M : Nat → Prop) (g : Nat) (s : Bk) (k o : Int) (a : Option Addr) (n c : Nat) (ls : List Ln) (w : World) (hM : MBook M g s w) (hl : LinesAt w a n ls) (hv : AllV (allL s.L)) (hv2 : AllV ls)
    (hlen : (allL s.L).length + n ≤ 9223372036854775807) (hLl : s.L.length ≤ 9223372036854775807) (hnc : n ≤ c) :
    Calls Tryd.prog 33 #[.pointer (some ⟨g, 0, none⟩), .agg #[.int .i64 k, .int .i64 o], .slice a n c] w (NumTo w (s.bal k o + balL k o ls)) := by
  have re := run_eql_ac
  have rg := run_guard_ac
  have rb := build_num
  have HM := Lib.hid (fun W (hW : Below w.heap.size w W) => hM.up hW)
  have HL := Lib.hid (fun W (hW : Below w.heap.size w W) => hl.up hW)
  have HLN := Lib.hid hl.1
  have HV := Lib.hid hv
  have HV2 := Lib.hid hv2
  have HLEN := Lib.hid hlen
  have hnn : n ≤ 9223372036854775807 := by omega
  obtain ⟨NL, hNL⟩ : ∃ NL, s.L.length = NL := ⟨_, rfl⟩
  have HNL := Lib.hid hNL
  rw [hNL] at hLl
  clear hM hl hv hv2 hlen hNL
  go_enter Tryd.func33, Tryd.ntmps33
  go_wp2_with fail
  have hS : SumAt w k o 0 none 0 0 false (((w.alloc (Obj.cells #[.int .i64 k, .int .i64 o] 24)).alloc (Obj.cells #[.slice none 0 0, .bool false] 54)).alloc (Obj.cells #[.slice none 0 0, .bool false] 54)) := by
    have q1 := ((Row.new w [.int .i64 k, .int .i64 o] 24).alloc (Obj.cells #[.slice none 0 0, .bool false] 54)).alloc (Obj.cells #[.slice none 0 0, .bool false] 54)
    have q2 := (Row.new (w.alloc (Obj.cells #[.int .i64 k, .int .i64 o] 24)) [.slice none 0 0, .bool false] 54).alloc (Obj.cells #[.slice none 0 0, .bool false] 54)
    have q3 := Row.new ((w.alloc (Obj.cells #[.int .i64 k, .int .i64 o] 24)).alloc (Obj.cells #[.slice none 0 0, .bool false] 54)) [.slice none 0 0, .bool false] 54
    simp only [World.size_alloc] at q2 q3
    exact ⟨num_zero10 q3, q1.cell (j := 0) (by simp), q1.cell (j := 1) (by simp), num_zero10 q2, (((Below.refl _ _).alloc (Nat.le_refl _) _).alloc (by simp) _).alloc (by simp; omega) _⟩
  have HS := Lib.hid hS
  clear hS
  obtain ⟨aL, cL, aD, cD, h0, -, hc1, -, hc2, hent, -⟩ := (HM.out _ (Below.refl _ _)).head
  rw [HNL.out] at h0 hc1
  replace h0 := Lib.hid h0
  replace hent := Lib.hid hent
  go_loopw [8] (fun i wr => ∃ (j : Nat) (an : Option Addr) (ln cn : Nat) (mn : Bool), i = .int .i64 (j : Int) ∧ j ≤ NL ∧ Hid (SumAt w k o (balL k o (allL (s.L.take j))) an ln cn mn wr)) (fun i _ => NL - (RowKit.intOf i).toNat)
  case atStart => exact ⟨0, none, 0, 0, false, rfl, by omega, by rw [List.take_zero]; exact HS⟩
  case round =>
    obtain ⟨i, an, ln, cn, mn, rfl, hi, hS⟩ := hrel
    have h0' : wr.cell? ⟨g, 0, none⟩ = some (.slice aL NL cL) := by rw [hS.out.below.cell (p := ⟨g, 0, none⟩) (cell_lt h0.out)]; exact h0.out
    by_cases hlt : i < NL
    · have u1 : (i : Int) < (NL : Int) := by omega
      obtain ⟨l, hl⟩ : ∃ l, s.L[i]? = some l := ⟨_, List.getElem?_eq_getElem (by rw [HNL.out]; exact hlt)⟩
      obtain ⟨qL, ai, ci, rfl, hci, hli, hlc, hcm, -⟩ := hent.out i l hl
      have HENT := Lib.hid hl
      have hlm : l.length ≤ 9223372036854775807 := by unfold maxLen at hcm; omega
      have hmem : l ∈ s.L := List.mem_of_getElem? hl
      have HMEM := Lib.hid hmem
      have HLI : Hid (∀ W, Below w.heap.size w W → LinesAt W ai l.length l ∧ W.cell? ⟨qL, i, none⟩ = some (.slice ai l.length ci) ∧ W.cell? ⟨g, 0, none⟩ = some (.slice (some ⟨qL, 0, none⟩) NL cL)) := fun W hW =>
        ⟨hli.up hW, by rw [hW.cell (p := ⟨qL, i, none⟩) (cell_lt hci)]; exact hci, by rw [hW.cell (p := ⟨g, 0, none⟩) (cell_lt h0.out)]; exact h0.out⟩
      clear hl hmem hli hci hcm
      go_wp2_with fail
      go_loopw [9] (fun j W => ∃ (t : Nat) (an : Option Addr) (ln cn : Nat) (mn : Bool), j = .int .i64 (t : Int) ∧ t ≤ l.length ∧ Hid (SumAt w k o (balL k o (allL (s.L.take i)) + balL k o (l.take t)) an ln cn mn W)) (fun j _ => l.length - (RowKit.intOf j).toNat)
      case atStart => exact ⟨0, an, ln, cn, mn, rfl, by omega, by rw [List.take_zero]; simpa [balL] using hS⟩
      case round =>
        obtain ⟨t, an, ln, cn, mn, rfl, ht, hS2⟩ := hrel
        obtain ⟨hli, hci', h0'⟩ := HLI.out _ hS2.out.below
        by_cases htl : t < l.length
        · have u2 : (t : Int) < (l.length : Int) := by omega
          obtain ⟨q, off, x, rfl, hx, hxm, x0, x1, x2⟩ := hli.get htl
          have hx64 := HV.out x (allL_mem HMEM.out hxm)
          have hst := balL_take (k := k) (o := o) hx
          have HX64 := Lib.hid hx64
          have HXJ := Lib.hid hx
          have bb0 := hS2.out.b0
          have bb1 := hS2.out.b1
          obtain ⟨S0, hS0⟩ : ∃ S0, balL k o (allL (s.L.take i)) + balL k o (l.take t) = S0 := ⟨_, rfl⟩
          obtain ⟨S1, hS1⟩ : ∃ S1, balL k o (allL (s.L.take i)) + balL k o (l.take (t + 1)) = S1 := ⟨_, rfl⟩
          have sm1 : Hid (Small S0) := by
            rw [← hS0, ← balL_append]
            refine small_balL _ _ _ (fun y hy => ?_) ?_
            · rcases List.mem_append.1 hy with hy | hy
              · exact HV.out y (mem_allL_take hy)
              · exact HV.out y (allL_mem HMEM.out (List.mem_of_mem_take hy))
            · have h1 := allL_take_len s.L (i + 1)
              rw [allL_take HENT.out, List.length_append] at h1
              have h2 := HLEN.out
              rw [List.length_append, List.length_take]
              omega
          have sm2 : Hid (Small x.v) := small_v hx64
          rw [hS0] at hS2
          have HS1 := Lib.hid hS1
          by_cases hac : x.k = k ∧ x.o = o
          · have ta : (x.k == k && x.o == o) = true := by simp [hac]
            have HST : Hid (S1 = S0 + x.v) := by rw [← hS1, hst, if_pos hac, ← hS0]; show _ = _; omega
            clear hx hxm hst hx64 hS0 hac
            go_wp2_with fail
            go_quiet (fail)
            have hX := Lib.hid (hS2.out.drewN nq)
            clear hS2 hci' h0' x0 x1 x2 bb0 bb1
            obtain ⟨W2, hW2⟩ : ∃ W2, wr.drewN nq = W2 := ⟨_, rfl⟩
            rw [hW2] at hX
            rw [hW2]
            clear hW2
            obtain ⟨hli, hci', h0'⟩ := HLI.out _ hX.out.below
            obtain ⟨q', off', x', e', hx', -, x0, x1, x2⟩ := hli.get htl
            cases e'
            obtain rfl : x = x' := by rw [HXJ.out] at hx'; exact Option.some.inj hx'
            have k0 := hX.out.num.c0
            have k1 := hX.out.num.c1
            clear hx' hli
            go_wp2_with fail
            go_region_law (first
              | (go_simp; go_at_call 24; refine (of_any x.v HX64.out _).mono ?_; rintro e y1 ⟨u1, rfl, M1, P1⟩
                 have V1 := hX.out.drew.call P1
                 have k0' := V1.num.c0
                 have k1' := V1.num.c1
                 have HV1 := Lib.hid V1
                 have M1' := Lib.hid M1
                 clear V1 M1 P1)
              | (go_simp; go_at_call 23; refine (addN_any (.agg #[.slice an ln cn, .bool mn]) u1 S0 x.v _ HV1.out.num.num M1'.out sm1.out sm2.out).mono ?_; rintro e y2 ⟨u2, rfl, M2, P2⟩
                 obtain ⟨a4, l4, c4, d4, rfl, R4⟩ := M2
                 obtain ⟨m4, hm4⟩ : ∃ m4, decide (S0 + x.v < 0) = m4 := ⟨_, rfl⟩
                 have V2 := HV1.out.call P2
                 have k0'' := V2.num.c0
                 have k1'' := V2.num.c1
                 have f0'' := V2.num.f0
                 have f1'' := V2.num.f1
                 have HNV : Hid (SumAt w k o S1 a4 l4 c4 m4 ((y2.setCell ⟨w.heap.size + 1 + 1, 0, none⟩ (.slice a4 l4 c4)).setCell ⟨w.heap.size + 1 + 1, 1, none⟩ (.bool m4))) := by
                   rw [HST.out, ← hm4]; exact V2.put ⟨a4, l4, c4, d4, rfl, R4⟩
                 rw [hm4]
                 clear V2 P2 R4 hm4))
            all_goals
              go_wp2_with fail
              go_roundw
              case rel => exact ⟨t + 1, a4, l4, c4, m4, by go_num, by omega, by rw [HS1.out]; exact HNV⟩
              case measure => simp [RowKit.intOf]; omega
          · have ta : (x.k == k && x.o == o) = false := by simp only [Bool.and_eq_false_iff, beq_eq_false_iff_ne]; omega
            have HST : Hid (S1 = S0) := by rw [← hS1, hst, if_neg hac, ← hS0]; show _ = _; omega
            clear hx hxm hst hx64 hS0 hac
            go_wp2_with fail
            go_quiet (fail)
            go_wp2_with fail
            go_roundw
            case rel => exact ⟨t + 1, an, ln, cn, mn, by go_num, by omega, by rw [HS1.out, HST.out]; exact hS2.out.drewN nq⟩
            case measure => simp [RowKit.intOf]; omega
        · have u2 : ¬ (t : Int) < (l.length : Int) := by omega
          have hfin : Hid (SumAt w k o (balL k o (allL (s.L.take (i + 1)))) an ln cn mn wr) := by
            have h1 := hS2.out
            rw [List.take_of_length_le (l := l) (by omega), ← balL_append, ← allL_take HENT.out] at h1
            exact h1
          clear hli htl
          go_wp2_with fail
          go_roundw
          case rel => exact ⟨i + 1, an, ln, cn, mn, by go_num, by omega, hfin⟩
          case measure => simp [RowKit.intOf]; omega
    · have u1 : ¬ (i : Int) < (NL : Int) := by omega
      have hfull : Hid (SumAt w k o (s.bal k o) an ln cn mn wr) := by
        have h1 := hS.out
        rw [List.take_of_length_le (by rw [HNL.out]; omega)] at h1
        exact h1
      clear hS hlt hi
      go_wp2_with fail
      go_loopw [10] (fun j W => ∃ (t : Nat) (an : Option Addr) (ln cn : Nat) (mn : Bool), j = .int .i64 (t : Int) ∧ t ≤ n ∧ Hid (SumAt w k o (s.bal k o + balL k o (ls.take t)) an ln cn mn W)) (fun j _ => n - (RowKit.intOf j).toNat)
      case atStart => exact ⟨0, an, ln, cn, mn, rfl, by omega, by rw [List.take_zero]; simpa [balL] using hfull⟩
      case round =>
        obtain ⟨t, an, ln, cn, mn, rfl, ht, hS2⟩ := hrel
        have hli := HL.out _ hS2.out.below
        by_cases htl : t < n
        · have u2 : (t : Int) < (n : Int) := by omega
          obtain ⟨q, off, x, rfl, hx, hxm, x0, x1, x2⟩ := hli.get htl
          have hx64 := HV2.out x hxm
          have hst := balL_take (k := k) (o := o) hx
          have HX64 := Lib.hid hx64
          have HXJ := Lib.hid hx
          have bb0 := hS2.out.b0
          have bb1 := hS2.out.b1
          obtain ⟨S0, hS0⟩ : ∃ S0, s.bal k o + balL k o (ls.take t) = S0 := ⟨_, rfl⟩
          obtain ⟨S1, hS1⟩ : ∃ S1, s.bal k o + balL k o (ls.take (t + 1)) = S1 := ⟨_, rfl⟩
          have sm1 : Hid (Small S0) := by
            rw [← hS0]
            unfold Bk.bal
            rw [← balL_append]
            refine small_balL _ _ _ (fun y hy => ?_) ?_
            · rcases List.mem_append.1 hy with hy | hy
              · exact HV.out y hy
              · exact HV2.out y (List.mem_of_mem_take hy)
            · have h2 := HLEN.out
              rw [List.length_append, List.length_take]
              omega
          have sm2 : Hid (Small x.v) := small_v hx64
          rw [hS0] at hS2
          have HS1 := Lib.hid hS1
          by_cases hac : x.k = k ∧ x.o = o
          · have ta : (x.k == k && x.o == o) = true := by simp [hac]
            have HST : Hid (S1 = S0 + x.v) := by rw [← hS1, hst, if_pos hac, ← hS0]; show _ = _; omega
            clear hx hxm hst hx64 hS0 hac
            go_wp2_with fail
            go_quiet (fail)
            have hX := Lib.hid (hS2.out.drewN nq)
            clear hS2 x0 x1 x2 bb0 bb1
            obtain ⟨W2, hW2⟩ : ∃ W2, wr.drewN nq = W2 := ⟨_, rfl⟩
            rw [hW2] at hX
            rw [hW2]
            clear hW2
            obtain ⟨q', off', x', e', hx', -, x0, x1, x2⟩ := (HL.out _ hX.out.below).get htl
            cases e'
            obtain rfl : x = x' := by rw [HXJ.out] at hx'; exact Option.some.inj hx'
            have k0 := hX.out.num.c0
            have k1 := hX.out.num.c1
            clear hx' hli
            go_wp2_with fail
            go_region_law (first
              | (go_simp; go_at_call 24; refine (of_any x.v HX64.out _).mono ?_; rintro e y1 ⟨u1, rfl, M1, P1⟩
                 have V1 := hX.out.drew.call P1
                 have k0' := V1.num.c0
                 have k1' := V1.num.c1
                 have HV1 := Lib.hid V1
                 have M1' := Lib.hid M1
                 clear V1 M1 P1)
              | (go_simp; go_at_call 23; refine (addN_any (.agg #[.slice an ln cn, .bool mn]) u1 S0 x.v _ HV1.out.num.num M1'.out sm1.out sm2.out).mono ?_; rintro e y2 ⟨u2, rfl, M2, P2⟩
                 obtain ⟨a4, l4, c4, d4, rfl, R4⟩ := M2
                 obtain ⟨m4, hm4⟩ : ∃ m4, decide (S0 + x.v < 0) = m4 := ⟨_, rfl⟩
                 have V2 := HV1.out.call P2
                 have k0'' := V2.num.c0
                 have k1'' := V2.num.c1
                 have f0'' := V2.num.f0
                 have f1'' := V2.num.f1
                 have HNV : Hid (SumAt w k o S1 a4 l4 c4 m4 ((y2.setCell ⟨w.heap.size + 1 + 1, 0, none⟩ (.slice a4 l4 c4)).setCell ⟨w.heap.size + 1 + 1, 1, none⟩ (.bool m4))) := by
                   rw [HST.out, ← hm4]; exact V2.put ⟨a4, l4, c4, d4, rfl, R4⟩
                 rw [hm4]
                 clear V2 P2 R4 hm4))
            all_goals
              go_wp2_with fail
              go_roundw
              case rel => exact ⟨t + 1, a4, l4, c4, m4, by go_num, by omega, by rw [HS1.out]; exact HNV⟩
              case measure => simp [RowKit.intOf]; omega
          · have ta : (x.k == k && x.o == o) = false := by simp only [Bool.and_eq_false_iff, beq_eq_false_iff_ne]; omega
            have HST : Hid (S1 = S0) := by rw [← hS1, hst, if_neg hac, ← hS0]; show _ = _; omega
            clear hx hxm hst hx64 hS0 hac
            go_wp2_with fail
            go_quiet (fail)
            go_wp2_with fail
            go_roundw
            case rel => exact ⟨t + 1, an, ln, cn, mn, by go_num, by omega, by rw [HS1.out, HST.out]; exact hS2.out.drewN nq⟩
            case measure => simp [RowKit.intOf]; omega
        · have u2 : ¬ (t : Int) < (n : Int) := by omega
          have hfin := hS2.out
          rw [List.take_of_length_le (l := ls) (by rw [HLN.out]; omega)] at hfin
          have HFIN := Lib.hid hfin
          have k0 := hfin.num.c0
          have k1 := hfin.num.c1
          have r0 := hfin.res.c0
          have r1 := hfin.res.c1
          have f0 := hfin.res.f0
          have f1 := hfin.res.f1
          clear hli htl hfin hS2
          go_wp2_with fail
          have hput := HFIN.out.res.put HFIN.out.num.num
          have e0 := hput.c0
          have e1 := hput.c1
          refine bodyPost_ret (v := .agg #[.slice an ln cn, .bool mn]) (by simp [results, Tryd.results33, go_sem, r0, r1]) rfl (show NumTo w _ _ _ from ⟨_, rfl, hput.num, (HFIN.out.below.setCell (by simp) _).setCell (by simp) _⟩)
end Go.Proofs.YtcdkgfjjgebcnaaDoor
