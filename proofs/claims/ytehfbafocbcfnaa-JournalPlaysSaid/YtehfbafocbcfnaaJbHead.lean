/- The landed journal's helpers: a record's head, bytes compared, is a byte no 0, the record that stands first. -/
import Derived.Test.YtehfbafocbcfnaaJrnRef1
import Derived.Test.YtehfbafocbcfnaaRecs2
import Derived.Test.YtehfbafocbcfnaaDiskRef4
import Derived.Deep.OwnRows
import Derived.Laws.Bits64
import Derived.Laws.BitsLemmas
import Derived.Laws.DeepNot64
import Derived.StillTailTactics
import Derived.BigQuiet
namespace Go.Proofs.Ytehfbafocbcfnaa
open Go Go.RowKit
set_option linter.unusedVariables false

theorem u8_not (a : Nat) (ha : a < 256) : bits .xor .u8 IntKind.u8.max (a : Int) = ((255 - a : Nat) : Int) := by
  obtain ⟨b, rfl⟩ : ∃ b : Fin 256, a = b.val := ⟨⟨a, ha⟩, rfl⟩
  revert b
  decide +kernel

/-- a head's bytes, so many of each half set -/
def hbN (n : Nat) : Nat → List Value
  | 0 => List.replicate 8 (.int .u8 0)
  | j + 1 => ((hbN n j).set j (b8 (n / 256 ^ j % 256))).set (4 + j) (b8 (255 - n / 256 ^ j % 256))
theorem hbN_len (n j : Nat) : (hbN n j).length = 8 := by
  induction j with
  | zero => rfl
  | succ j ih => simp [hbN, ih]
theorem hbN_all (n : Nat) : hbN n 4 = (headN n).map b8 := by
  simp [hbN, headN, List.set, List.replicate]

set_option maxHeartbeats 4000000 in
theorem head_any (n : Nat) (hn : n ≤ 1024) (w : World) : Calls Try.prog 52 #[.int .i64 (n : Int)] w fun e w' =>
    e = .returned (.slice (some ⟨w.heap.size, 0, none⟩) 8 8) ∧ Row w.heap.size 5 ((headN n).map b8) w' ∧ Below w.heap.size w w' := by
  have hm1 := run_make_row' (P := Try.prog) 27 5 (.int .u8 0) 1 Try.underlying27 info_u8 rfl .i64 .i64 8 (by omega) (by omega)
  simp only [made_rep, List.toArray_replicate, show ((8 : Nat) : Int) = 8 from rfl] at hm1
  go_enter Try.func52, Try.ntmps52
  go_wp2_with fail
  go_loopw [6] (fun i wr => ∃ (j : Nat), j ≤ 4 ∧ i = .int .i64 (j : Int) ∧ Row w.heap.size 5 (hbN n j) wr ∧ Hid (Below w.heap.size w wr)) (fun i _ => 4 - (RowKit.intOf i).toNat)
  case atStart => exact ⟨0, by omega, rfl, by have h := Row.new w (List.replicate 8 (.int .u8 0)) 5; rwa [List.toArray_replicate] at h, (Below.refl _ _).alloc (Nat.le_refl _) _⟩
  case round =>
    obtain ⟨j, hj, rfl, hrow, hbel⟩ := hrel
    by_cases hlt : j < 4
    · have t6 : (j : Int) < 4 := by omega
      have t7 : (0 : Int) ≤ (j : Int) := by omega
      have t8 : (j : Int) < 8 := by omega
      have s8 : IntKind.i64.wrap (8 * (j : Int)) = 8 * (j : Int) := IntWalk.i64_in _ (by omega)
      have s4 : IntKind.i64.wrap (4 + (j : Int)) = 4 + (j : Int) := IntWalk.i64_in _ (by omega)
      have s9 : IntKind.i64.wrap ((j : Int) + 1) = (j : Int) + 1 := IntWalk.i64_in _ (by omega)
      obtain ⟨x, hx⟩ : ∃ x, n / 256 ^ j % 256 = x := ⟨_, rfl⟩
      have hx1 : x < 256 := by omega
      have hxi : (n : Int) / 2 ^ (8 * j) % 256 = (x : Int) := by
        rw [← hx, show (2 : Int) ^ (8 * j) = ((256 ^ j : Nat) : Int) by rw [Int.pow_mul]; simp]
        omega
      have hu : bits .xor .u8 (if IntKind.u8.signed = true then -1 else IntKind.u8.max) (x : Int) = ((255 - x : Nat) : Int) := u8_not x hx1
      have hlen := hbN_len n j
      have hset : hbN n (j + 1) = ((hbN n j).set j (b8 x)).set (4 + j) (b8 (255 - x)) := by rw [← hx]; rfl
      obtain ⟨z, hz⟩ : ∃ z, 255 - x = z := ⟨_, rfl⟩
      rw [hz] at hu hset
      have HS := Lib.hid hset
      have hr1 := hrow.set j (b8 x)
      have hr2 := hr1.set (4 + j) (b8 z)
      have f1 := hrow.frozen j
      have c1 := hrow.cell (j := j) (by omega)
      have c2 := hr1.cell (j := j) (by simp; omega)
      have f3 := hr1.frozen (4 + j)
      have c3 := hr1.cell (j := 4 + j) (by simp; omega)
      rw [show ((hbN n j).set j (b8 x)).getD j undef = b8 x by simp [List.getD, hlen, show j < 8 by omega]] at c2
      simp only [b8] at c2 f3 c3
      have HR := Lib.hid hr2
      clear hx hset hrow hr1 hr2 hz
      go_wp2_with fail
      go_roundw
      case rel => exact ⟨j + 1, by omega, by go_num, by rw [HS.out]; exact HR.out, (hbel.out.setCell (Nat.le_refl _) _).setCell (Nat.le_refl _) _⟩
      case measure => simp [RowKit.intOf]; omega
    · obtain rfl : j = 4 := by omega
      rw [hbN_all] at hrow
      go_wp2_with fail
      go_ret
      exact ⟨rfl, hrow, hbel.out⟩

set_option maxHeartbeats 4000000 in
theorem equal_any (a a' : Option Addr) (m c m' c' : Nat) (x y : List Nat) (w : World) (h : Cells w a m (x.map b8)) (h' : Cells w a' m' (y.map b8)) (hx : ∀ b ∈ x, b < 256) (hy : ∀ b ∈ y, b < 256) :
    Calls Try.prog 51 #[.slice a m c, .slice a' m' c'] w fun e w' => e = .returned (.bool (decide (x = y))) ∧ w' = w := by
  have rs1 : (convert 27 9 (.slice a m c)).run Try.prog w = .ok (.string (strB x)) w := run_str_row h
  have rs2 : (convert 27 9 (.slice a' m' c')).run Try.prog w = .ok (.string (strB y)) w := run_str_row h'
  clear h h'
  go_enter Try.func51, Try.ntmps51
  by_cases hxy : x = y
  · have hst : ((strB x).toList == (strB y).toList) = true := by rw [hxy]; exact strB_same _
    have hd : decide (x = y) = true := decide_eq_true hxy
    rw [hd]
    clear hxy hd
    go_wp2_with fail
    go_ret
    exact ⟨by simp, rfl⟩
  · have hst : ((strB x).toList == (strB y).toList) = false := strB_other hx hy hxy
    have hd : decide (x = y) = false := decide_eq_false hxy
    rw [hd]
    clear hxy hd
    go_wp2_with fail
    go_ret
    exact ⟨by simp, rfl⟩

abbrev oddF : Value := .func (.func 54) #[] #[]

set_option maxHeartbeats 4000000 in
theorem oddF_any (x : Nat) (hx : x < 256) (w : World) : Calls Try.prog 54 #[.int .u8 (x : Int)] w fun e w' => e = .returned (.bool (x != 0)) ∧ w' = w := by
  go_enter Try.func54, Try.ntmps54
  go_wp2_with fail
  go_ret
  refine ⟨?_, rfl⟩
  by_cases h : x = 0
  · subst h; rfl
  · have h1 : (x != 0) = true := by simpa using h
    have h2 : ((x : Int) != 0) = true := by simp; omega
    rw [h1]
    simp [h]

set_option maxHeartbeats 4000000 in
theorem indexFunc_any (a : Option Addr) (m c : Nat) (bs : List Nat) (w : World) (h : Cells w a m (bs.map b8)) (hb : ∀ x ∈ bs, x < 256) (hm : m ≤ 1000000) :
    Calls Try.prog 58 #[.slice a m c, oddF] w fun e w' => w' = w ∧ ∃ k : Int, e = .returned (.int .i64 k) ∧ (decide (0 ≤ k)) = bs.any (· != 0) ∧ -1 ≤ k ∧ k ≤ 1000000 := by
  have hl : bs.length = m := by have := h.1; rwa [List.length_map] at this
  have HL := Lib.hid hl
  have HC := Lib.hid h
  have HB := Lib.hid hb
  clear h hl hb
  go_enter Try.func58, Try.ntmps58
  go_wp2_with fail
  go_loopw [8] (fun i wr => ∃ (j : Nat), j ≤ m ∧ i = .int .i64 (j : Int) ∧ wr = w ∧ Hid ((bs.take j).any (· != 0) = false)) (fun i _ => m - (RowKit.intOf i).toNat)
  case atStart => exact ⟨0, by omega, rfl, rfl, by rfl⟩
  case round =>
    obtain ⟨j, hj, rfl, rfl, hz⟩ := hrel
    by_cases hlt : j < m
    · obtain ⟨b, off, rfl, hcell⟩ := HC.out.2.resolve_left (by omega)
      have hcj := hcell j hlt
      have hsn : (bs.take (j + 1)).any (· != 0) = (bs.getD j 0 != 0) := by
        rw [take_snoc bs j (by rw [HL.out]; exact hlt), List.any_append, hz.out]; simp
      have hx256 : bs.getD j 0 < 256 := HB.out _ (by simp [List.getD, show j < bs.length by rw [HL.out]; exact hlt])
      rw [show (bs.map b8).getD j undef = b8 (bs.getD j 0) by simp [List.getD, show j < bs.length by rw [HL.out]; exact hlt]] at hcj
      have hmem : bs.getD j 0 ∈ bs := by simp [List.getD, show j < bs.length by rw [HL.out]; exact hlt]
      obtain ⟨x, hx⟩ : ∃ x, bs.getD j 0 = x := ⟨_, rfl⟩
      rw [hx] at hcj hsn hx256 hmem
      simp only [b8] at hcj
      have t6 : (j : Int) < (m : Int) := by omega
      have t7 : (0 : Int) ≤ (j : Int) := by omega
      have s9 : IntKind.i64.wrap ((j : Int) + 1) = (j : Int) + 1 := IntWalk.i64_in _ (by omega)
      have HSN := Lib.hid hsn
      have HMEM := Lib.hid hmem
      clear hcell hx hsn hmem
      go_wp2_with fail
      refine (oddF_any x hx256 _).mono ?_
      rintro e w1 ⟨rfl, rfl⟩
      by_cases hx0 : x = 0
      · subst hx0
        go_wp2_with fail
        go_roundw
        case rel => exact ⟨j + 1, by omega, by go_num, trivial, HSN.out⟩
        case measure => simp [RowKit.intOf]; omega
      · have h1 : (x != 0) = true := by simpa using hx0
        rw [h1]
        have hany : bs.any (· != 0) = true := List.any_eq_true.2 ⟨x, HMEM.out, h1⟩
        have HA := Lib.hid hany
        clear hany h1
        go_wp2_with fail
        go_ret
        exact ⟨rfl, (j : Int), rfl, by rw [HA.out]; simp, by omega, by omega⟩
    · obtain rfl : j = m := by omega
      have hall : bs.any (· != 0) = false := by have := hz.out; rwa [List.take_of_length_le (by rw [HL.out]; omega)] at this
      go_wp2_with fail
      go_ret
      exact ⟨rfl, -1, rfl, by rw [hall]; rfl, by omega, by omega⟩

set_option maxHeartbeats 4000000 in
theorem containsFunc_any (a : Option Addr) (m c : Nat) (bs : List Nat) (w : World) (h : Cells w a m (bs.map b8)) (hb : ∀ x ∈ bs, x < 256) (hm : m ≤ 1000000) :
    Calls Try.prog 53 #[.slice a m c, oddF] w fun e w' => e = .returned (.bool (bs.any (· != 0))) ∧ w' = w := by
  have hi := indexFunc_any a m c bs w h hb hm
  obtain ⟨o, ho⟩ : ∃ o, bs.any (· != 0) = o := ⟨_, rfl⟩
  rw [ho]
  rw [ho] at hi
  clear h hb ho
  go_enter Try.func53, Try.ntmps53
  go_wp2_with fail
  refine hi.mono ?_
  rintro e w1 ⟨rfl, k, rfl, hk, hk1, hk2⟩
  subst hk
  by_cases h0 : 0 ≤ k
  · go_wp2_with fail
    go_ret
    exact ⟨by simp [h0], rfl⟩
  · go_wp2_with fail
    go_ret
    exact ⟨by simp, rfl⟩

/-- how many bytes the record has that stands first; 0: none does -/
def fstN (xs : List Nat) : Nat :=
  if 8 ≤ xs.length ∧ 1 ≤ xs.getD 0 0 + 256 * xs.getD 1 0 ∧ xs.getD 0 0 + 256 * xs.getD 1 0 ≤ min 1024 (xs.length - 8) ∧ headN (xs.getD 0 0 + 256 * xs.getD 1 0) = xs.take 8 then xs.getD 0 0 + 256 * xs.getD 1 0 else 0

theorem headN_inj {a b : Nat} (ha : a ≤ 1024) (hb : b ≤ 1024) (h : headN a = headN b) : a = b := by
  simp only [headN, List.cons.injEq] at h
  omega
theorem headN_two {n : Nat} {xs : List Nat} (h : headN n = xs.take 8) : xs.getD 0 0 = n % 256 ∧ xs.getD 1 0 = n / 256 % 256 := by
  have h0 : (xs.take 8).getD 0 0 = n % 256 := by rw [← h]; rfl
  have h1 : (xs.take 8).getD 1 0 = n / 256 % 256 := by rw [← h]; rfl
  refine ⟨?_, ?_⟩
  · rw [← h0]; simp [List.getD]
  · rw [← h1]; simp [List.getD]
theorem fndN_of {bs : List Nat} {p k : Nat} (hk : 1 ≤ k) (hk2 : k ≤ 1024) (hh : headN k = (bs.drop p).take 8) (N : Nat) (hN : N ≤ 1024) : fndN bs p N = if k ≤ N then k else 0 := by
  induction N with
  | zero => rw [if_neg (by omega)]; rfl
  | succ N ih =>
    rw [fnd_step]
    by_cases he : headN (N + 1) = (bs.drop p).take 8
    · rw [if_pos he]
      have := headN_inj (show N + 1 ≤ 1024 by omega) hk2 (he.trans hh.symm)
      rw [if_pos (by omega), this]
    · rw [if_neg he, ih (by omega)]
      by_cases h1 : k ≤ N
      · rw [if_pos h1, if_pos (by omega)]
      · by_cases h2 : k = N + 1
        · subst h2; exact absurd hh he
        · rw [if_neg h1, if_neg (by omega)]
theorem fndN_zero {bs : List Nat} {p : Nat} (N : Nat) (h : ∀ k, 1 ≤ k → k ≤ N → headN k ≠ (bs.drop p).take 8) : fndN bs p N = 0 := by
  induction N with
  | zero => rfl
  | succ N ih =>
    rw [fnd_step, if_neg (h _ (by omega) (Nat.le_refl _)), ih fun k h1 h2 => h k h1 (by omega)]
theorem fstN_found {bs : List Nat} {p : Nat} (hp : p ≤ bs.length) : fstN (bs.drop p) = foundN bs p := by
  have hl : (bs.drop p).length = bs.length - p := List.length_drop ..
  unfold foundN fstN
  rw [hl]
  obtain ⟨n0, hn0⟩ : ∃ n0, (bs.drop p).getD 0 0 + 256 * (bs.drop p).getD 1 0 = n0 := ⟨_, rfl⟩
  rw [hn0]
  by_cases hc : 8 ≤ bs.length - p ∧ 1 ≤ n0 ∧ n0 ≤ min 1024 (bs.length - p - 8) ∧ headN n0 = (bs.drop p).take 8
  · rw [if_pos hc, fndN_of hc.2.1 (by omega) hc.2.2.2 _ (by omega), if_pos (by omega)]
  · rw [if_neg hc]
    refine (fndN_zero _ fun k h1 h2 he => hc ?_).symm
    obtain ⟨e0, e1⟩ := headN_two he
    have : n0 = k := by omega
    subst this
    exact ⟨by omega, h1, by omega, he⟩

theorem Row.cells {g : Nat} {e : TypeId} {xs : List Value} {w : World} (h : Row g e xs w) : Cells w (some ⟨g, 0, none⟩) xs.length xs :=
  ⟨rfl, Or.inr ⟨g, 0, rfl, fun j hj => by rw [Nat.zero_add]; exact h.cell hj⟩⟩

theorem or8 (x y : Nat) (hx : x < 256) (hy : y < 256) : bits .or .i64 (x : Int) ((y : Int) * 256) = ((x + 256 * y : Nat) : Int) := by
  have e : (y : Int) * 256 = ((256 * y : Nat) : Int) := by omega
  have h1 : (BitVec.ofInt 64 (x : Int)).toNat = x := by
    rw [BitVec.ofInt_natCast, BitVec.toNat_ofNat]; exact Nat.mod_eq_of_lt (by omega)
  have h2 : (BitVec.ofInt 64 ((256 * y : Nat) : Int)).toNat = 256 * y := by
    rw [BitVec.ofInt_natCast, BitVec.toNat_ofNat]; exact Nat.mod_eq_of_lt (by omega)
  rw [e]
  show IntKind.i64.wrap ((BitVec.ofInt 64 (x : Int) ||| BitVec.ofInt 64 ((256 * y : Nat) : Int)).toNat : Int) = _
  rw [BitVec.toNat_or, h1, h2, Nat.or_comm, ← Nat.two_pow_add_eq_or_of_lt (i := 8) hx y, IntWalk.i64_in _ (by omega)]
  omega

set_option maxHeartbeats 8000000 in
theorem first_any (a : Option Addr) (m c : Nat) (xs : List Nat) (w : World) (h : Cells w a m (xs.map b8)) (hb : ∀ x ∈ xs, x < 256) (hm : m ≤ 1000000) (hmc : m ≤ c) :
    Calls Try.prog 40 #[.slice a m c] w fun e w' => Below w.heap.size w w' ∧
      ((fstN xs = 0 ∧ e = .returned (.slice none 0 0)) ∨ (fstN xs ≠ 0 ∧ ∃ b o, e = .returned (.slice (some ⟨b, o, none⟩) (fstN xs) (c - 8)) ∧ Cells w' (some ⟨b, o, none⟩) (fstN xs) (((xs.drop 8).take (fstN xs)).map b8))) := by
  have hl : xs.length = m := by have := h.1; rwa [List.length_map] at this
  have HF : Hid (fstN xs = if 8 ≤ m ∧ 1 ≤ xs.getD 0 0 + 256 * xs.getD 1 0 ∧ xs.getD 0 0 + 256 * xs.getD 1 0 ≤ min 1024 (m - 8) ∧ headN (xs.getD 0 0 + 256 * xs.getD 1 0) = xs.take 8 then xs.getD 0 0 + 256 * xs.getD 1 0 else 0) := by
    show _ = _
    rw [← hl]; rfl
  have HL := Lib.hid hl
  have HC := Lib.hid h
  have HB := Lib.hid hb
  clear h hl hb
  by_cases h8 : m < 8
  · have hz : fstN xs = 0 := by rw [HF.out, if_neg (by omega)]
    have t1 : (m : Int) < 8 := by omega
    go_enter Try.func40, Try.ntmps40
    go_wp2_with fail
    go_ret
    exact ⟨Below.refl _ _, Or.inl ⟨hz, rfl⟩⟩
  · have t1 : ¬ (m : Int) < 8 := by omega
    obtain ⟨b, off, rfl, hcell⟩ := HC.out.2.resolve_left (by omega)
    have c0 := hcell 0 (by omega)
    have c1 := hcell 1 (by omega)
    have hx0 : xs.getD 0 0 < 256 := HB.out _ (by simp [List.getD, show 0 < xs.length by rw [HL.out]; omega])
    have hx1 : xs.getD 1 0 < 256 := HB.out _ (by simp [List.getD, show 1 < xs.length by rw [HL.out]; omega])
    rw [show (xs.map b8).getD 0 undef = b8 (xs.getD 0 0) by simp [List.getD, show 0 < xs.length by rw [HL.out]; omega]] at c0
    rw [show (xs.map b8).getD 1 undef = b8 (xs.getD 1 0) by simp [List.getD, show 1 < xs.length by rw [HL.out]; omega]] at c1
    obtain ⟨x, hx⟩ : ∃ x, xs.getD 0 0 = x := ⟨_, rfl⟩
    obtain ⟨y, hy⟩ : ∃ y, xs.getD 1 0 = y := ⟨_, rfl⟩
    rw [hx] at HF c0 hx0
    rw [hy] at HF c1 hx1
    simp only [b8, Nat.add_zero] at c0 c1
    obtain ⟨n0, hn0⟩ : ∃ n0, x + 256 * y = n0 := ⟨_, rfl⟩
    have hor := or8 x y hx0 hx1
    rw [hn0] at HF hor
    have hn0b : n0 < 65536 := by omega
    have s8 : IntKind.i64.wrap ((m : Int) - 8) = (m : Int) - 8 := IntWalk.i64_in _ (by omega)
    have s9 : IntKind.i64.wrap (8 + (n0 : Int)) = 8 + (n0 : Int) := IntWalk.i64_in _ (by omega)
    have hcell' : ∀ j, j < m → w.cell? ⟨b, off + j, none⟩ = some ((xs.map b8).getD j undef) := hcell
    clear hx hy hcell hn0
    go_enter Try.func40, Try.ntmps40
    go_wp2_with fail
    go_region
    go_wp2_with fail
    by_cases h1 : n0 < 1
    · have t2 : (n0 : Int) < 1 := by omega
      go_region
      go_wp2_with fail
      go_ret
      exact ⟨Below.drew (Below.drew (Below.refl _ _)), Or.inl ⟨by rw [HF.out, if_neg (by omega)], rfl⟩⟩
    · have t2 : ¬ (n0 : Int) < 1 := by omega
      by_cases h2 : n0 ≤ min 1024 (m - 8)
      · have ht8 : Cells w (some ⟨b, off, none⟩) 8 ((xs.take 8).map b8) := by
          refine ⟨by simp [HL.out]; omega, Or.inr ⟨b, off, rfl, fun j hj => ?_⟩⟩
          rw [hcell' j (by omega)]
          simp [List.getD, hj, show j < xs.length by rw [HL.out]; omega]
        have hy256 : ∀ z ∈ xs.take 8, z < 256 := fun z hz => HB.out z (List.mem_of_mem_take hz)
        have hpl : Cells w (some ⟨b, off + 8, none⟩) n0 (((xs.drop 8).take n0).map b8) := by
          refine ⟨by simp [HL.out]; omega, Or.inr ⟨b, off + 8, rfl, fun j hj => ?_⟩⟩
          rw [Nat.add_assoc, hcell' (8 + j) (by omega)]
          simp [List.getD, hj, show 8 + j < xs.length by rw [HL.out]; omega]
        have HT8 := Lib.hid ht8
        have HY := Lib.hid hy256
        have HPL := Lib.hid hpl
        obtain ⟨y8, hy8⟩ : ∃ y8, xs.take 8 = y8 := ⟨_, rfl⟩
        rw [hy8] at HT8 HY HF
        have t4 : n0 ≤ 1024 := by omega
        have t5 : n0 ≤ m - 8 := by omega
        have hne1 : ¬ c = 0 := by omega
        have hne2 : ¬ c = 8 := by omega
        have s10 : 8 + (n0 : Int) ≤ (c : Int) := by omega
        have hsl : ∀ W', (Instr.slice 27 (.slice (some ⟨b, off, none⟩) m c) none (some (.int .i64 8)) none).run Try.prog W' = .ok (.slice (some ⟨b, off, none⟩) 8 c) W' := fun W' => by
          have hz : ∀ w, (Go.sizeOf 5).run Try.prog w = .ok 1 w := fun w => by first | exact Try.sizeOf5 w | exact Try.sizeOf5 | simp [Try.sizeOf5]
          have ht' : Try.prog.underlying 27 = some (.slice (Try.prog.elem 27)) := by simp [Program.elem, Try.underlying27]
          have he : Try.prog.elem 27 = 5 := by simp [Program.elem, Try.underlying27]
          rw [run_slice_h W' 27 _ _ _ ht' .i64 _ (by omega) (by omega), he, hz]
          simp [Result.andThen, sliced, Addr.add, hne1]
        have hT : Hid (Below w.heap.size w w.drew.drew) := Below.drew (Below.drew (Below.refl _ _))
        clear hcell' ht8 hy256 hpl hy8
        have t6 : ((m : Int) - 8 < 1024 ∧ ¬ (m : Int) - 8 < (n0 : Int)) ∨ (¬ (m : Int) - 8 < 1024 ∧ ¬ (1024 : Int) < (n0 : Int)) := by omega
        rcases t6 with ⟨t6, t7⟩ | ⟨t6, t7⟩
        all_goals
          by_cases hxy : y8 = headN n0
          · have hf : Hid (fstN xs = n0) := by show _ = _; rw [HF.out, if_pos ⟨by omega, by omega, h2, hxy.symm⟩]
            have hd : decide (y8 = headN n0) = true := decide_eq_true hxy
            have HD := Lib.hid hd
            clear hd hxy
            go_region_held3 (fun w' => True) (trivial)
              (first
                | (go_at_call 52; with_reducible refine (head_any n0 t4 _).mono ?_; rintro e w1 ⟨rfl, hr1, hb1⟩; have HR1 := Lib.hid hr1; have hT := Lib.hid (hT.out.trans (hb1.mono hT.out.size)); clear hr1 hb1)
                | (go_at_call 51; with_reducible refine (equal_any _ _ 8 c 8 8 y8 (headN n0) _ (HT8.out.upB hT.out) HR1.out.cells HY.out (headN_256 n0)).mono ?_; rintro e w2 ⟨rfl, rfl⟩; rw [HD.out]))
            go_wp2_with fail
            go_ret
            refine ⟨hT.out, Or.inr ⟨by rw [hf.out]; omega, b, off + 8, by rw [hf.out]; simp, by rw [hf.out]; exact HPL.out.upB hT.out⟩⟩
          · have hf : Hid (fstN xs = 0) := by show _ = _; rw [HF.out, if_neg fun h => hxy h.2.2.2.symm]
            have hd : decide (y8 = headN n0) = false := decide_eq_false hxy
            have HD := Lib.hid hd
            clear hd hxy
            go_region_held3 (fun w' => True) (trivial)
              (first
                | (go_at_call 52; with_reducible refine (head_any n0 t4 _).mono ?_; rintro e w1 ⟨rfl, hr1, hb1⟩; have HR1 := Lib.hid hr1; have hT := Lib.hid (hT.out.trans (hb1.mono hT.out.size)); clear hr1 hb1)
                | (go_at_call 51; with_reducible refine (equal_any _ _ 8 c 8 8 y8 (headN n0) _ (HT8.out.upB hT.out) HR1.out.cells HY.out (headN_256 n0)).mono ?_; rintro e w2 ⟨rfl, rfl⟩; rw [HD.out]))
            go_wp2_with fail
            go_ret
            exact ⟨hT.out, Or.inl ⟨hf.out, rfl⟩⟩
      · by_cases h3 : 1024 ≤ m - 8
        · have t3 : (1024 : Int) ≤ (m : Int) - 8 := by omega
          have t4 : (n0 : Int) > 1024 := by omega
          go_region
          go_wp2_with fail
          go_ret
          exact ⟨Below.drew (Below.drew (Below.refl _ _)), Or.inl ⟨by rw [HF.out, if_neg (by omega)], rfl⟩⟩
        · have t3 : ¬ (1024 : Int) ≤ (m : Int) - 8 := by omega
          have t4 : (n0 : Int) > (m : Int) - 8 := by omega
          go_region
          go_wp2_with fail
          go_ret
          exact ⟨Below.drew (Below.drew (Below.refl _ _)), Or.inl ⟨by rw [HF.out, if_neg (by omega)], rfl⟩⟩
end Go.Proofs.Ytehfbafocbcfnaa
