/- The contract of the landed pack.Put. -/
import Derived.Test.YtbiggclekgpgeaaPackBits
import Derived.Test.YtbiggclekgpgeaaPackC
namespace Go.Proofs.Ytbiggclekgpgeaa
open Go Go.RowKit
set_option linter.unusedVariables false

theorem or128 (u : Nat) : bits .or .u8 ((u : Int) % 256) 128 = ((u % 128 + 128 : Nat) : Int) := by
  have h1 : (u : Int) % 256 = ((u % 256 : Nat) : Int) := by omega
  have h2 : ∀ x : Fin 256, x.val ||| 128 = x.val % 128 + 128 := by decide +kernel
  rw [h1, show (128 : Int) = ((128 : Nat) : Int) by rfl]
  rw [(bits_nat .u8 8 (by decide) wraps_u8 (u % 256) 128 (by omega) (by decide)).2]
  have h3 := h2 ⟨u % 256, by omega⟩
  simp only at h3
  rw [h3]
  omega

/-- a row of bytes of the call's own has become longer by these -/
def MoreTo (base : Nat) (bs : List Nat) (w : World) (e : Ending) (w' : World) : Prop :=
  ∃ v, e = .returned v ∧ w'.ownsRow base 5 1 v bs.length (bs.map b8) ∧ Below base w w'

set_option maxRecDepth 100000 in
set_option maxHeartbeats 4000000 in
theorem putNumber_any (base : Nat) (v : Value) (bs : List Nat) (n : Int) (w : World) (h : i64 n) (ho : w.ownsRow base 5 1 v bs.length (bs.map b8)) (hs : base ≤ w.heap.size) (hl : bs.length ≤ 10000) :
    Calls Try.prog 13 #[v, .int .i64 n] w (MoreTo base (bs ++ numB n) w) := by
  have hlen := (numB_len h).2
  have h64 := zig_64 h
  obtain ⟨z, hz⟩ : ∃ z, zig n = z := ⟨_, rfl⟩
  have HB : Hid (dig7 z = numB n) := by rw [← hz]; exact rfl
  have HF := Lib.hid (fold_any n h)
  rw [hz] at HF h64
  have HL := Lib.hid hlen
  have HO := Lib.hid ho
  clear hlen hz ho
  go_enter Try.func13, Try.ntmps13
  go_wp2_with fail
  refine (HF.out _).mono ?_
  rintro e w1 ⟨hw, rfl⟩
  rw [hw]
  clear hw w1
  go_wp2_with fail
  go_loopw [0, 5] (fun x y wr => ∃ (u : Nat) (ds : List Nat), y = .int .u64 u ∧ u < 18446744073709551616 ∧ wr.ownsRow base 5 1 x ds.length (ds.map b8) ∧ Hid (ds ++ dig7 u = bs ++ numB n) ∧ Below base w wr ∧ base ≤ wr.heap.size) (fun _ y _ => (RowKit.intOf y).toNat)
  case atStart => exact ⟨z, bs, rfl, h64, HO.out, by rw [HB.out]; exact rfl, Below.refl _ _, hs⟩
  case round =>
    obtain ⟨u, ds, rfl, hu, hown, hds, hbel, hsz⟩ := hrel
    have hl2 : ds.length + (dig7 u).length ≤ 10010 := by
      have h1 := HL.out
      have h2 := congrArg List.length hds.out
      rw [List.length_append, List.length_append] at h2
      omega
    have hl1 := dig7_len u
    have HO := Lib.hid hown
    by_cases hlt : u < 128
    · have hdd := hds.out
      rw [dig7_lt hlt] at hdd
      have HS := Lib.hid hdd
      have M3 : Hid (ds.length + 1 ≤ maxLen) := by show ds.length + 1 ≤ maxLen; simp only [maxLen]; omega
      have hw8 : IntKind.u8.wrap (u : Int) = (u : Int) := by rw [IntKind.wrap_u8]; omega
      clear hown hds hdd
      go_wp2_with (at_builtin; refine wpList_append_cells rfl (.tmp 18) (.tmp 21) 26 rfl base Tu8 _ ds.length (ds.map b8) rfl (HO.out.alloc _) (some ⟨_, 0, none⟩) 1 1 [b8 u] rfl (fun h => by cases h) (one_new _ _ _) (b8_one [u]) M3.out (by omega) (Nat.le_trans hsz (by simp)) ?_; intro v1 w1 o1 q1 r1 l1)
      have hb1 : Below base w w1 := (hbel.alloc hsz _).grown q1 (Nat.le_trans hsz (by simp)) (fun z hz => (HO.out.lt z hz).1)
      rw [b8_snoc] at o1
      go_ret
      exact ⟨_, rfl, by rw [← HS.out]; simpa using o1, hb1⟩
    · have hdd := hds.out
      rw [dig7_ge (by omega)] at hdd
      have hor := or128 u
      obtain ⟨d, hd⟩ : ∃ d, u % 128 + 128 = d := ⟨_, rfl⟩
      obtain ⟨q, hq⟩ : ∃ q, u / 128 = q := ⟨_, rfl⟩
      rw [hd] at hdd hor
      rw [hq] at hdd
      have hqu : q < u := by omega
      have eq : (u : Int) / 128 = (q : Int) := by omega
      have hge : (128 : Int) ≤ (u : Int) := by omega
      have M3 : Hid (ds.length + 1 ≤ maxLen) := by show ds.length + 1 ≤ maxLen; simp only [maxLen]; omega
      have HS : Hid ((ds ++ [d]) ++ dig7 q = bs ++ numB n) := by rw [List.append_assoc]; exact hdd
      clear hown hds hdd hd hq
      go_wp2_with (at_builtin; refine wpList_append_cells rfl (.tmp 12) (.tmp 16) 26 rfl base Tu8 _ ds.length (ds.map b8) rfl (HO.out.alloc _) (some ⟨_, 0, none⟩) 1 1 [b8 d] rfl (fun h => by cases h) (one_new _ _ _) (b8_one [d]) M3.out (by omega) (Nat.le_trans hsz (by simp)) ?_; intro v1 w1 o1 q1 r1 l1)
      have hb1 : Below base w w1 := (hbel.alloc hsz _).grown q1 (Nat.le_trans hsz (by simp)) (fun z hz => (HO.out.lt z hz).1)
      have hs1 : base ≤ w1.heap.size := Nat.le_trans hsz (Nat.le_trans (by simp) q1.size)
      rw [b8_snoc] at o1
      go_roundw
      case rel => exact ⟨q, ds ++ [d], by first | rfl | rw [eq], by omega, by simpa using o1, HS, hb1, hs1⟩
      case measure => simp [RowKit.intOf]; omega

/-- an element of an array of integers by value -/
theorem run_idx (n : Nat) (cs : Array Value) (t : TypeId) (i : Int) (v : Value) (h : Try.prog.underlying t = some (.array n 2)) (h0 : 0 ≤ i) (h1 : i < (n : Int)) (hv : cs[i.toNat]? = some v) (w : World) :
    (Instr.index t (.agg cs) (.int .i64 i)).run Try.prog w = .ok v w := by
  have e1 : (sizeOf 2).run Try.prog w = .ok 1 w := by simp
  simp [Instr.index, run_underlying h, asIntOf, h0, h1, e1, hv, go_sem]

/-- what Put has written so far, behind the box of what came in -/
structure PutAt (w W0 : World) (v : Value) (bs : List Nat) (wr : World) : Prop where
  own : wr.ownsRow (w.heap.size + 1) 5 1 v bs.length (bs.map b8)
  below : Below (w.heap.size + 1) W0 wr
  size : w.heap.size + 1 ≤ wr.heap.size

theorem PutAt.more {w W0 wr w' : World} {v v' : Value} {bs bs' : List Nat} (h : PutAt w W0 v bs wr) (ho : w'.ownsRow (w.heap.size + 1) 5 1 v' bs'.length (bs'.map b8)) (hb : Below (w.heap.size + 1) wr w') : PutAt w W0 v' bs' w' :=
  ⟨ho, h.below.trans hb, Nat.le_trans h.size hb.size⟩

theorem head_step (k y l n : Int) {j : Nat} (h : j < 4) : allB ([k, y, l, n].take j) ++ numB ([k, y, l, n].getD j 0) = allB ([k, y, l, n].take (j + 1)) := by
  rw [take_snocI _ (by simpa using h), allB_snoc]

set_option maxRecDepth 100000 in
set_option maxHeartbeats 8000000 in
theorem put_any (k y l : Int) (a : Option Addr) (n c : Nat) (N : List Int) (w : World) (hk : i64 k) (hy : i64 y) (hl : i64 l) (hN : Elems w a n N) (hn : n ≤ 1000) (hc : n ≤ c) :
    Calls Try.prog 8 #[cmdV k y l (.slice a n c)] w (PutTo w k y l n N) := by
  have hNl : N.length = n := hN.1
  have HNL := Lib.hid hNl
  have HLEN : Hid (i64 (n : Int)) := by unfold i64; show _ ∧ _; omega
  have HE : Hid (∀ W, Below w.heap.size w W → Elems W a n N) := fun W hW => hN.upB hW
  have HK := Lib.hid hk
  have HY := Lib.hid hy
  have HL := Lib.hid hl
  clear hk hy hl hN hNl
  obtain ⟨W0, hW0⟩ : ∃ W0, W0 = w.alloc (Obj.cells #[.int .i64 k, .int .i64 y, .int .i64 l, .slice a n c] 24) := ⟨_, rfl⟩
  have HS0 : Hid (W0.heap.size = w.heap.size + 1) := by rw [hW0]; exact World.size_alloc ..
  have E0 : Hid (∀ W, Below (w.heap.size + 1) W0 W → Below (w.heap.size + 1) (w.alloc (Obj.cells #[.int .i64 k, .int .i64 y, .int .i64 l, .slice a n c] 24)) W) := fun W hW => by rw [← hW0]; exact hW
  have E1 : Hid (∀ W, Below (w.heap.size + 1) W0 W → Below w.heap.size w W) := fun W hW => ((Below.refl w.heap.size w).alloc (Nat.le_refl _) _).trans (by rw [hW0] at hW; exact hW.mono (by omega))
  go_enter Try.func8, Try.ntmps8
  by_cases h16 : 16 < n
  · have t16 : (16 : Int) < (n : Int) := by omega
    go_wp2_with fail
    rw [← hW0]
    clear hW0
    refine bodyPost_ret (v := .tuple #[.slice none 0 0, errK 1]) (by simp [results, Try.results8, go_sem]) rfl (show PutTo w k y l n N _ _ from ⟨E1.out _ (Below.refl _ _), Or.inr ⟨h16, none, 0, rfl⟩⟩)
  · have t16 : ¬ (16 : Int) < (n : Int) := by omega
    have hW : PutAt w W0 (.slice none 0 0) [] W0 := ⟨World.ownsRow_nil _ _ _ _, Below.refl _ _, by rw [HS0.out]; exact Nat.le_refl _⟩
    have HW := Lib.hid hW
    have AL : Hid (∀ i, i ≤ 4 → (allB ([k, y, l, (n : Int)].take i)).length ≤ 10 * i) := fun i hi => by
      have := allB_len ([k, y, l, (n : Int)].take i) (fun m hm => by
        have := List.mem_of_mem_take hm
        simp only [List.mem_cons, List.not_mem_nil, or_false] at this
        rcases this with rfl | rfl | rfl | rfl
        · exact HK.out
        · exact HY.out
        · exact HL.out
        · exact HLEN.out)
      rw [List.length_take] at this
      omega
    have AN : Hid (∀ i, i ≤ n → (allB (N.take i)).length ≤ 10 * i) := fun i hi => by
      have := allB_len (N.take i) (fun m hm => by
        exact (HE.out w (Below.refl _ _)).2.1 m (List.mem_of_mem_take hm))
      rw [List.length_take] at this
      omega
    clear hW
    go_wp2_with fail
    rw [← hW0]
    clear hW0
    go_loopw [4, 24] (fun v i wr => ∃ j : Nat, j ≤ 4 ∧ i = .int .i64 (j : Int) ∧ Hid (PutAt w W0 v (allB ([k, y, l, (n : Int)].take j)) wr)) (fun _ i _ => 4 - (RowKit.intOf i).toNat)
    case atStart => exact ⟨0, by omega, rfl, HW⟩
    case round =>
      obtain ⟨j, hj, rfl, hP⟩ := hrel
      by_cases hlt : j < 4
      · have HST := Lib.hid (head_step k y l (n : Int) hlt)
        have hbl := AL.out j hj
        have h4 : (j : Int) < 4 := by omega
        obtain ⟨x, hx⟩ : ∃ x, [k, y, l, (n : Int)].getD j 0 = x := ⟨_, rfl⟩
        have hin : Hid (i64 x) := by
          show i64 x
          rw [← hx]
          have hcase : j = 0 ∨ j = 1 ∨ j = 2 ∨ j = 3 := by omega
          rcases hcase with rfl | rfl | rfl | rfl
          · exact HK.out
          · exact HY.out
          · exact HL.out
          · exact HLEN.out
        have hidx := run_idx 4 #[.int .i64 k, .int .i64 y, .int .i64 l, .int .i64 (n : Int)] 42 (j : Int) (.int .i64 x) Try.underlying42 (by omega) (by omega) (by
          rw [← hx, Int.toNat_natCast]
          have hcase : j = 0 ∨ j = 1 ∨ j = 2 ∨ j = 3 := by omega
          rcases hcase with rfl | rfl | rfl | rfl <;> rfl)
        rw [hx] at HST
        clear hx
        go_wp2_with fail
        refine (putNumber_any (w.heap.size + 1) _ _ x _ hin.out hP.out.own hP.out.size (by omega)).mono ?_
        rintro e w1 ⟨v1, rfl, o1, b1⟩
        rw [HST.out] at o1
        have hP1 := Lib.hid (hP.out.more o1 b1)
        clear o1 b1 hP
        go_wp2_with fail
        go_roundw
        case rel => exact ⟨j + 1, by omega, by go_num, hP1⟩
        case measure => simp [RowKit.intOf]; omega
      · obtain rfl : j = 4 := by omega
        obtain ⟨q0, q1, q2, q3⟩ := cmd_cells (E0.out _ hP.out.below)
        have hb4 := AL.out 4 (by omega)
        have h4 : ¬ ((4 : Nat) : Int) < 4 := by omega
        go_wp2_with fail
        go_loopw [4, 34] (fun v i wr => ∃ j : Nat, j ≤ n ∧ i = .int .i64 (j : Int) ∧ Hid (PutAt w W0 v (allB ([k, y, l, (n : Int)].take 4) ++ allB (N.take j)) wr)) (fun _ i _ => n - (RowKit.intOf i).toNat)
        case atStart => exact ⟨0, by omega, rfl, by rw [List.take_zero, show allB [] = [] from rfl, List.append_nil]; exact hP⟩
        case round =>
          obtain ⟨j, hj, rfl, hQ⟩ := hrel
          obtain ⟨c0, c1, c2, c3⟩ := cmd_cells (E0.out _ hQ.out.below)
          by_cases hlt : j < n
          · obtain ⟨bk, off, rfl, hcc, h64⟩ := (HE.out _ (E1.out _ hQ.out.below)).get hlt
            obtain ⟨x, hx⟩ : ∃ x, N.getD j 0 = x := ⟨_, rfl⟩
            rw [hx] at hcc h64
            have la := AN.out j (by omega)
            have HS : Hid (allB ([k, y, l, (n : Int)].take 4) ++ allB (N.take j) ++ numB x = allB ([k, y, l, (n : Int)].take 4) ++ allB (N.take (j + 1))) := by
              rw [take_snocI N (by rw [HNL.out]; exact hlt), hx, allB_snoc, List.append_assoc]; exact rfl
            have H64 := Lib.hid h64
            have j1 : (j : Int) < (n : Int) := by omega
            clear hx h64
            go_wp2_with fail
            refine (putNumber_any (w.heap.size + 1) _ _ x _ H64.out hQ.out.own hQ.out.size (by rw [List.length_append]; omega)).mono ?_
            rintro e w1 ⟨v1, rfl, o1, b1⟩
            rw [HS.out] at o1
            have hQ1 := Lib.hid (hQ.out.more o1 b1)
            clear o1 b1 hQ c0 c1 c2 c3 hcc
            go_wp2_with fail
            go_roundw
            case rel => exact ⟨j + 1, by omega, by go_num, hQ1⟩
            case measure => simp [RowKit.intOf]; omega
          · obtain rfl : j = n := by omega
            have hp : allB ([k, y, l, (j : Int)].take 4) ++ allB (N.take j) = putB k y l N := by
              rw [putB_parts, HNL.out, List.take_of_length_le (l := N) (by rw [HNL.out]; exact Nat.le_refl _)]
              simp [allB]
            rw [hp] at hQ
            have h16' : j ≤ 16 := by omega
            go_wp2_with fail
            refine bodyPost_ret (v := .tuple #[_, .nilIface]) (by simp [results, Try.results8, go_sem]) rfl (show PutTo w k y l j N _ _ from ⟨E1.out _ hQ.out.below, Or.inl ⟨h16', _, rfl, ownsRow_monoB hQ.out.own (by omega)⟩⟩)
end Go.Proofs.Ytbiggclekgpgeaa
