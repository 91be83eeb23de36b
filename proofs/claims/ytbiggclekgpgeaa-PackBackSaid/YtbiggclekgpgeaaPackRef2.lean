/- The contract of the document's answer of layer 6: a command's bytes. -/
import Derived.Test.YtbiggclekgpgeaaPackRef1
import Derived.Test.YtbiggclekgpgeaaInts
namespace Go.Proofs.Ytbiggclekgpgeaa
open Go Go.RowKit
set_option linter.unusedVariables false

theorem Elems.upB {w w' : World} {a : Option Addr} {len : Nat} {zs : List Int} (h : Elems w a len zs) (hb : Below w.heap.size w w') : Elems w' a len zs := by
  obtain ⟨h1, h2, h3⟩ := h
  refine ⟨h1, h2, ?_⟩
  rcases h3 with h0 | ⟨b, off, rfl, hc⟩
  · exact Or.inl h0
  · by_cases h0 : len = 0
    · exact Or.inl h0
    · have hlt : b < w.heap.size := cell_lt (hc 0 (by omega))
      exact Or.inr ⟨b, off, rfl, fun j hj => by rw [hb.cell (p := ⟨b, off + j, none⟩) hlt]; exact hc j hj⟩

theorem Elems.get {w : World} {a : Option Addr} {len : Nat} {zs : List Int} (h : Elems w a len zs) {i : Nat} (hi : i < len) :
    ∃ b off, a = some ⟨b, off, none⟩ ∧ w.cell? ⟨b, off + i, none⟩ = some (.int .i64 (zs.getD i 0)) ∧ i64 (zs.getD i 0) := by
  obtain ⟨h1, h2, h3⟩ := h
  rcases h3 with h0 | ⟨b, off, rfl, hc⟩
  · omega
  · refine ⟨b, off, rfl, hc i hi, ?_⟩
    have : zs.getD i 0 ∈ zs := by simp [List.getD, show i < zs.length by omega]
    exact h2 _ this

/-- what is told so far: a row of bytes of the call's own behind a box of its own -/
structure Out (w : World) (W0 : World) (v : Value) (bs : List Nat) (wr : World) : Prop where
  own : wr.ownsRow (w.heap.size + 1) 5 1 v bs.length (bs.map b8)
  below : Below (w.heap.size + 1) W0 wr
  size : w.heap.size + 1 ≤ wr.heap.size

theorem Out.first {w W0 : World} {v : Value} {bs : List Nat} {w1 : World} (hs : W0.heap.size = w.heap.size + 1) (ho : w1.ownsRow W0.heap.size 5 1 v bs.length (bs.map b8)) (hb : Below W0.heap.size W0 w1) : Out w W0 v bs w1 := by
  rw [hs] at ho hb
  exact ⟨ho, hb, by rw [← hs]; exact hb.size⟩
theorem Out.up {w W0 : World} {v : Value} {bs : List Nat} {w1 w2 : World} (h : Out w W0 v bs w1) (hb : Below w1.heap.size w1 w2) : Out w W0 v bs w2 :=
  ⟨ownsRow_upB h.own hb, h.below.trans (hb.mono h.size), Nat.le_trans h.size hb.size⟩
theorem Out.add {w W0 : World} {v v' : Value} {bs ns : List Nat} {w1 w2 : World} {m : Nat} (h : Out w W0 v bs w1) (hm : m = ns.length) (ho : w2.ownsRow (w.heap.size + 1) 5 1 v' (bs.length + m) (bs.map b8 ++ ns.map b8)) (hg : w1.grownBy w2 v.ownBlock) : Out w W0 v' (bs ++ ns) w2 := by
  subst hm
  rw [b8_append] at ho
  have hb := h.below.grown hg h.size (fun z hz => (h.own.lt z hz).1)
  exact ⟨by rw [List.length_append]; exact ho, hb, Nat.le_trans h.size hg.size⟩

/-- a box of a command -/
theorem cmd_cells {w w1 : World} {k y l : Int} {s : Value} (hb : Below (w.heap.size + 1) (w.alloc (Obj.cells #[.int .i64 k, .int .i64 y, .int .i64 l, s] 24)) w1) :
    w1.cell? ⟨w.heap.size, 0, none⟩ = some (.int .i64 k) ∧ w1.cell? ⟨w.heap.size, 1, none⟩ = some (.int .i64 y) ∧ w1.cell? ⟨w.heap.size, 2, none⟩ = some (.int .i64 l) ∧ w1.cell? ⟨w.heap.size, 3, none⟩ = some s := by
  have hc : ∀ o, w1.cell? ⟨w.heap.size, o, none⟩ = (w.alloc (Obj.cells #[.int .i64 k, .int .i64 y, .int .i64 l, s] 24)).cell? ⟨w.heap.size, o, none⟩ := fun o => hb.cell (p := ⟨w.heap.size, o, none⟩) (Nat.lt_succ_self _)
  rw [hc, hc, hc, hc]
  refine ⟨?_, ?_, ?_, ?_⟩ <;> simp

theorem allB_snoc (l : List Int) (n : Int) : allB (l ++ [n]) = allB l ++ numB n := by rw [allB_append]; simp [allB]
theorem putB_parts (k y l : Int) (N : List Int) : putB k y l N = numB k ++ numB y ++ numB l ++ numB (N.length : Int) ++ allB N := by simp [putB, allB]
theorem take_snocI (N : List Int) {i : Nat} (h : i < N.length) : N.take (i + 1) = N.take i ++ [N.getD i 0] := by
  rw [List.take_add_one, List.getElem?_eq_getElem h]
  simp [List.getD, h]

set_option maxHeartbeats 8000000 in
theorem refPut_any (k y l : Int) (a : Option Addr) (len cap : Nat) (N : List Int) (w : World) (hk : i64 k) (hy : i64 y) (hl : i64 l) (hN : Elems w a len N) (hlen : len ≤ 1000) :
    Calls Try.prog 9 #[.agg #[.int .i64 k, .int .i64 y, .int .i64 l, .slice a len cap]] w (BytesTo w (putB k y l N)) := by
  have hNl : N.length = len := hN.1
  have HK := Lib.hid hk
  have HY := Lib.hid hy
  have HL := Lib.hid hl
  have HLEN : Hid (i64 (len : Int)) := by unfold i64; show _ ∧ _; omega
  have lk := (numB_len hk).2
  have ly := (numB_len hy).2
  have ll := (numB_len hl).2
  have ln := (numB_len HLEN.out).2
  have AL : Hid (∀ i, i ≤ len → (allB (N.take i)).length ≤ 10 * i) := fun i hi => by
    have := allB_len (N.take i) (fun n hn => hN.2.1 n (List.mem_of_mem_take hn))
    rw [List.length_take] at this
    omega
  have HE : Hid (∀ W, Below w.heap.size w W → Elems W a len N) := fun W hW => hN.upB hW
  have HNL := Lib.hid hNl
  clear hk hy hl hN hNl
  obtain ⟨W0, hW0⟩ : ∃ W0, W0 = w.alloc (Obj.cells #[.int .i64 k, .int .i64 y, .int .i64 l, .slice a len cap] 24) := ⟨_, rfl⟩
  have hs0 : W0.heap.size = w.heap.size + 1 := by rw [hW0]; simp
  have E0 : Hid (∀ W, Below (w.heap.size + 1) W0 W → Below (w.heap.size + 1) (w.alloc (Obj.cells #[.int .i64 k, .int .i64 y, .int .i64 l, .slice a len cap] 24)) W) := fun W hW => by rw [← hW0]; exact hW
  have E1 : Hid (∀ W, Below (w.heap.size + 1) W0 W → Below w.heap.size w W) := fun W hW => ((Below.refl w.heap.size w).alloc (Nat.le_refl _) _).trans (by rw [hW0] at hW; exact hW.mono (by omega))
  have HS0 := Lib.hid hs0
  clear hs0
  go_enter Try.func9, Try.ntmps9
  go_wp2_with fail
  rw [← hW0]
  refine (refNumber6_any k HK.out _).mono ?_
  rintro e w1 ⟨v1, rfl, o1, b1⟩
  have O1 := Lib.hid (Out.first HS0.out o1 b1)
  clear o1 b1 hW0
  obtain ⟨c0, c1, c2, c3⟩ := cmd_cells (E0.out _ O1.out.below)
  go_wp2_with fail
  refine (refNumber6_any y HY.out _).mono ?_
  rintro e w2 ⟨u1, rfl, o, b⟩
  have O1' := Lib.hid (O1.out.up b)
  obtain ⟨a1, k1, rfl, C1, n1, -, -⟩ := own_bytes o
  clear o b O1 c0 c1 c2 c3
  go_wp2_with (at_builtin; refine wpList_append_cells rfl (.tmp 8) (.tmp 11) 26 rfl (w.heap.size + 1) Tu8 v1 _ _ rfl O1'.out.own a1 _ k1 _ rfl n1 C1 (b8_one _) (by first | (simp only [maxLen]; omega) | (simp only [maxLen, List.length_append]; omega)) (by first | omega | (simp only [List.length_append]; omega)) O1'.out.size ?_; intro v2 w3 o q r l'; have O2 := Lib.hid (O1'.out.add rfl o q); obtain ⟨c0, c1, c2, c3⟩ := cmd_cells (E0.out _ O2.out.below); clear o q r l' O1')
  go_wp2_with fail
  refine (refNumber6_any l HL.out _).mono ?_
  rintro e w4 ⟨u2, rfl, o, b⟩
  have O2' := Lib.hid (O2.out.up b)
  obtain ⟨a2, k2, rfl, C2, n2, -, -⟩ := own_bytes o
  clear o b O2 c0 c1 c2 c3
  go_wp2_with (at_builtin; refine wpList_append_cells rfl (.tmp 13) (.tmp 16) 26 rfl (w.heap.size + 1) Tu8 v2 _ _ rfl O2'.out.own a2 _ k2 _ rfl n2 C2 (b8_one _) (by first | (simp only [maxLen]; omega) | (simp only [maxLen, List.length_append]; omega)) (by first | omega | (simp only [List.length_append]; omega)) O2'.out.size ?_; intro v3 w5 o q r l'; have O3 := Lib.hid (O2'.out.add rfl o q); obtain ⟨c0, c1, c2, c3⟩ := cmd_cells (E0.out _ O3.out.below); clear o q r l' O2')
  go_wp2_with fail
  refine (refNumber6_any (len : Int) HLEN.out _).mono ?_
  rintro e w6 ⟨u3, rfl, o, b⟩
  have O3' := Lib.hid (O3.out.up b)
  obtain ⟨a3, k3, rfl, C3, n3, -, -⟩ := own_bytes o
  clear o b O3 c0 c1 c2 c3
  go_wp2_with (at_builtin; refine wpList_append_cells rfl (.tmp 18) (.tmp 22) 26 rfl (w.heap.size + 1) Tu8 v3 _ _ rfl O3'.out.own a3 _ k3 _ rfl n3 C3 (b8_one _) (by first | (simp only [maxLen]; omega) | (simp only [maxLen, List.length_append]; omega)) (by first | omega | (simp only [List.length_append]; omega)) O3'.out.size ?_; intro v4 w7 o q r l'; have O4 := Lib.hid (O3'.out.add rfl o q); obtain ⟨c0, c1, c2, c3⟩ := cmd_cells (E0.out _ O4.out.below); clear o q r l' O3')
  go_loopw [3, 4] (fun v i wr => ∃ (j : Nat), j ≤ len ∧ i = .int .i64 j ∧ Hid (Out w W0 v (numB k ++ numB y ++ numB l ++ numB (len : Int) ++ allB (N.take j)) wr)) (fun _ i _ => len - (RowKit.intOf i).toNat)
  case atStart => exact ⟨0, by omega, rfl, by simpa [allB] using O4⟩
  case round =>
    obtain ⟨j, hj, rfl, hO⟩ := hrel
    obtain ⟨c0, c1, c2, c3⟩ := cmd_cells (E0.out _ hO.out.below)
    by_cases hlt : j < len
    · obtain ⟨bk, off, rfl, hc, h64⟩ := (HE.out _ (E1.out _ hO.out.below)).get hlt
      obtain ⟨x, hx⟩ : ∃ x, N.getD j 0 = x := ⟨_, rfl⟩
      rw [hx] at hc h64
      have lx := (numB_len h64).2
      have la := AL.out j (by omega)
      have HS : Hid (allB (N.take j) ++ numB x = allB (N.take (j + 1))) := by rw [take_snocI N (by rw [HNL.out]; exact hlt), hx, allB_snoc]; exact rfl
      have H64 := Lib.hid h64
      have j1 : (j : Int) < (len : Int) := by omega
      clear hx h64
      go_wp2_with fail
      refine (refNumber6_any x H64.out _).mono ?_
      rintro e w8 ⟨u8, rfl, o, b⟩
      have hO' := Lib.hid (hO.out.up b)
      obtain ⟨a8, k8, rfl, C8, n8, -, -⟩ := own_bytes o
      clear o b c0 c1 c2 c3 hc
      go_wp2_with (at_builtin; refine wpList_append_cells rfl (.tmp 31) (.tmp 37) 26 rfl (w.heap.size + 1) Tu8 _ _ _ rfl hO'.out.own a8 _ k8 _ rfl n8 C8 (b8_one _) (by first | (simp only [maxLen]; omega) | (simp only [maxLen, List.length_append]; omega)) (by first | omega | (simp only [List.length_append]; omega)) hO'.out.size ?_; intro v9 w9 o q r l'; have O9 := Lib.hid (hO'.out.add rfl o q); clear o q r l' hO')
      rw [List.append_assoc, HS.out] at O9
      go_roundw
      case rel => exact ⟨j + 1, by omega, by go_num, O9⟩
      case measure => simp [RowKit.intOf]; omega
    · obtain rfl : j = len := by omega
      have hp : numB k ++ numB y ++ numB l ++ numB (j : Int) ++ allB (N.take j) = putB k y l N := by
        rw [putB_parts, HNL.out, List.take_of_length_le (by rw [HNL.out]; omega)]
      rw [hp] at hO
      go_wp2_with fail
      go_ret
      exact ⟨_, rfl, ownsRow_monoB hO.out.own (by omega), E1.out _ hO.out.below⟩
end Go.Proofs.Ytbiggclekgpgeaa
