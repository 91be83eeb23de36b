/- The contracts of the landed pack's helpers without memory: fold, unfold, the digits at a row's start. -/
import Derived.Test.YtbiggclekgpgeaaPackDig
import Derived.Test.YtbiggclekgpgeaaPackRef3
import Derived.Laws.Bits64
import Derived.Laws.BitsLemmas
import Derived.Laws.DeepNot64
namespace Go.Proofs.Ytbiggclekgpgeaa
open Go Go.RowKit
set_option linter.unusedVariables false

theorem fold_form (n : Int) (h : i64 n) : IntKind.u64.wrap (IntKind.u64.wrap n * 2) = if n < 0 then 18446744073709551616 + 2 * n else 2 * n := by
  obtain ⟨h1, h2⟩ := h
  rw [IntKind.wrap_u64, IntKind.wrap_u64]
  split <;> omega

theorem u64_not (a : Nat) (ha : a < 18446744073709551616) : bits .xor .u64 IntKind.u64.max (a : Int) = 18446744073709551615 - (a : Int) := by
  show IntKind.u64.wrap ((BitVec.ofInt 64 IntKind.u64.max ^^^ BitVec.ofInt 64 (a : Int)).toNat : Int) = _
  have h1 : BitVec.ofInt 64 IntKind.u64.max = BitVec.allOnes 64 := by decide
  rw [h1, BitVec.allOnes_xor, BitVec.toNat_not, ofInt_u64 a (by omega), IntKind.wrap_u64]
  omega

set_option maxHeartbeats 2000000 in
theorem fold_any (n : Int) (h : i64 n) (w : World) : Calls Try.prog 17 #[.int .i64 n] w fun e w' => w' = w ∧ e = .returned (.int .u64 ((zig n : Nat) : Int)) := by
  have h0 := fold_form n h
  obtain ⟨h1, h2⟩ := h
  go_enter Try.func17, Try.ntmps17
  by_cases hn : n < 0
  · rw [if_pos hn] at h0
    obtain ⟨a, ha⟩ : ∃ a : Nat, 18446744073709551616 + 2 * n = (a : Int) := ⟨(18446744073709551616 + 2 * n).toNat, by omega⟩
    have hx := u64_not a (by omega)
    have hz : (18446744073709551615 : Int) - (a : Int) = ((zig n : Nat) : Int) := by unfold zig; rw [if_neg (by omega)]; omega
    rw [ha] at h0
    rw [hz] at hx
    go_wp2_with fail
    go_ret
    exact ⟨rfl, by simp⟩
  · rw [if_neg hn] at h0
    have hz : n * 2 = ((zig n : Nat) : Int) := by unfold zig; rw [if_pos (by omega)]; omega
    go_wp2_with fail
    go_ret
    exact ⟨rfl, by simp⟩

set_option maxHeartbeats 2000000 in
theorem unfold_any (u : Nat) (h : u < 18446744073709551616) (w : World) : Calls Try.prog 19 #[.int .u64 (u : Int)] w fun e w' => w' = w ∧ e = .returned (.int .i64 (unzig u)) := by
  have hx := i64_not (u / 2) (by omega)
  rw [Int.natCast_ediv] at hx
  have h1 : (u : Int) % 2 > 0 → -1 - (u : Int) / ((2 : Nat) : Int) = unzig u := fun h => by unfold unzig; rw [if_pos (by omega)]; omega
  have h2 : (u : Int) % 2 ≤ 0 → (u : Int) / ((2 : Nat) : Int) = unzig u := fun h => by unfold unzig; rw [if_neg (by omega)]; omega
  have hx' : bits .xor .i64 (-1) ((u : Int) / 2) = -1 - (u : Int) / 2 := hx
  have h1' : (u : Int) % 2 > 0 → -1 - (u : Int) / 2 = unzig u := h1
  have h2' : (u : Int) % 2 ≤ 0 → (u : Int) / 2 = unzig u := h2
  have H1 := Lib.hid h1'
  have H2 := Lib.hid h2'
  clear h1 h2 hx h1' h2'
  go_enter Try.func19, Try.ntmps19
  by_cases hp : (u : Int) % 2 > 0
  · have hp' : 0 < (u : Int) % 2 := hp
    rw [H1.out hp] at hx'
    go_wp2_with fail
    go_ret
    exact ⟨rfl, by simp⟩
  · have hp' : (u : Int) % 2 ≤ 0 := by omega
    have hv := H2.out hp'
    go_wp2_with fail
    go_ret
    exact ⟨rfl, by simp⟩

/-- what the digits at a row's start come to -/
def DigTo (w : World) (bs : List Nat) (e : Ending) (w' : World) : Prop :=
  Below w.heap.size w w' ∧ ((∃ (u : Nat) (r : List Nat), u < 18446744073709551616 ∧ bs = dig7 u ++ r ∧ e = .returned (.tuple #[.int .u64 (u : Int), .int .i64 (((dig7 u).length : Nat) : Int), .bool true])) ∨
    (DigNo bs ∧ ∃ x y, e = .returned (.tuple #[x, y, .bool false])))

theorem or_bits (u p : Nat) (hu : u < 18446744073709551616) (hp : p < 18446744073709551616) : bits .or .u64 (u : Int) (p : Int) = ((u ||| p : Nat) : Int) :=
  (bits_nat .u64 64 (by decide) (fun n h0 h1 => by rw [IntKind.wrap_u64]; exact Int.emod_eq_of_lt h0 h1) u p hu hp).2

theorem take_drop_at (bs : List Nat) {i : Nat} (h : i < bs.length) : bs = bs.take i ++ bs.getD i 0 :: bs.drop (i + 1) := by
  have := List.take_append_drop i bs
  rw [List.drop_eq_getElem_cons h] at this
  simp [List.getD, h]
theorem take_snocN (bs : List Nat) {i : Nat} (h : i < bs.length) : bs.take (i + 1) = bs.take i ++ [bs.getD i 0] := by
  rw [List.take_add_one, List.getElem?_eq_getElem h]
  simp [List.getD, h]

set_option maxRecDepth 100000 in
set_option maxHeartbeats 8000000 in
theorem getDigits_any (a : Option Addr) (n c : Nat) (bs : List Nat) (w : World) (hb : Cells w a n (bs.map b8)) (h256 : ∀ b ∈ bs, b < 256) (hn : n ≤ 1000) :
    Calls Try.prog 18 #[.slice a n c] w (DigTo w bs) := by
  have hl : bs.length = n := by have := hb.1; rwa [List.length_map] at this
  have HL := Lib.hid hl
  have H256 := Lib.hid h256
  have HB : Hid (∀ W, Below w.heap.size w W → Cells W a n (bs.map b8)) := fun W hW => hb.upB hW
  clear hl h256 hb
  go_enter Try.func18, Try.ntmps18
  go_wp2_with fail
  go_loopw [5, 12] (fun u i wr => ∃ (j un : Nat), i = .int .i64 (j : Int) ∧ u = .int .u64 (un : Int) ∧ j ≤ n ∧ un < 18446744073709551616 ∧ Hid (Cont (bs.take j) ∧ un = val7 (bs.take j)) ∧ Below w.heap.size w wr) (fun _ i _ => n - (RowKit.intOf i).toNat)
  case atStart => exact ⟨0, 0, rfl, rfl, by omega, by omega, ⟨fun b hb => by simp at hb, rfl⟩, Below.refl _ _⟩
  case round =>
    obtain ⟨j, un, rfl, rfl, hj, hun, hv, hbel⟩ := hrel
    by_cases hlt : j < n
    · obtain ⟨b, off, rfl, hc⟩ := byte_at (HB.out _ hbel) hlt
      have hx256 := byte_lt H256.out j
      have hsplit := take_drop_at bs (i := j) (by rw [HL.out]; exact hlt)
      have hsnoc := take_snocN bs (i := j) (by rw [HL.out]; exact hlt)
      obtain ⟨x, hx⟩ : ∃ x, bs.getD j 0 = x := ⟨_, rfl⟩
      rw [hx] at hc hx256 hsplit hsnoc
      obtain ⟨s, hs⟩ : ∃ s, bs.drop (j + 1) = s := ⟨_, rfl⟩
      rw [hs] at hsplit
      obtain ⟨d, hd⟩ : ∃ d, x % 128 = d := ⟨_, rfl⟩
      have hd1 : d < 128 := by omega
      have ed : (x : Int) % 128 = (d : Int) := by omega
      have e7 : IntKind.i64.wrap (7 * (j : Int)) = 7 * (j : Int) := IntWalk.i64_in _ (by omega)
      have j1 : (j : Int) < (n : Int) := by omega
      have c7 : 0 ≤ 7 * (j : Int) := by omega
      have hlen : (bs.take j).length = j := by rw [List.length_take, HL.out]; omega
      obtain ⟨hcont, hun7⟩ := hv.out
      have hu7 := val7_lt (bs.take j)
      rw [hlen, ← hun7] at hu7
      have hsh := shl_place d j hd1
      have hsr := shr_place d j hd1
      rw [← IntKind.wrap_u64] at hsh
      have HS := Lib.hid hsplit
      have HN := Lib.hid hsnoc
      clear hs hsplit hsnoc hv
      by_cases hroom : d * 128 ^ j < 18446744073709551616
      · have hq := hsr.2 hroom
        rw [place_is d j hroom] at hsh hq
        have hor := or_bits un (d * 128 ^ j) hun hroom
        rw [or_place un d j hu7 hun hroom] at hor
        have hm64 := sum_lt un d j hu7 hun hroom
        have hval : val7 (bs.take j) + d * 128 ^ (bs.take j).length = un + d * 128 ^ j := by rw [hlen, hun7]
        obtain ⟨p, hp⟩ : ∃ p, d * 128 ^ j = p := ⟨_, rfl⟩
        rw [hp] at hsh hq hor hm64 hval
        obtain ⟨m, hm⟩ : ∃ m, un + p = m := ⟨_, rfl⟩
        rw [hm] at hor hm64 hval
        have ht : (((p : Int) / 2 ^ min (7 * j) 64) != (d : Int)) = false := by
          rw [Int.natCast_ediv] at hq
          simp only [bne_eq_false_iff_eq]
          simpa using hq
        have HV := Lib.hid hval
        have HC := Lib.hid hcont
        have HD := Lib.hid hd
        have HLE := Lib.hid hlen
        clear hsr hq hu7 hval hp hm hroom hcont hun7 hd hlen hx
        by_cases hxs : x < 128
        · have HXD : Hid (d = x) := by show d = x; have := HD.out; omega
          have x1 : (x : Int) < 128 := by omega
          have hres : Hid ((j = 0 ∨ 0 < d) → bs = dig7 m ++ s ∧ (dig7 m).length = j + 1) := by
            intro h
            have h1 := dig_yes (s := s) HC.out hxs (by
              rcases h with h | h
              · left; exact List.eq_nil_of_length_eq_zero (by rw [HLE.out]; exact h)
              · right; rw [← HXD.out]; exact h)
            rw [← HS.out, ← HXD.out, HV.out] at h1
            refine ⟨h1, ?_⟩
            have h2 := congrArg List.length h1
            have h3 := congrArg List.length HS.out
            rw [List.length_append] at h2 h3
            rw [HLE.out, List.length_cons] at h3
            omega
          by_cases h0 : j = 0
          · have h0' : ((j : Int) == 0) = true := by simp; omega
            have HR := Lib.hid (hres.out (Or.inl h0))
            rw [Nat.min_eq_left (by omega)] at hsh ht
            clear hres h0
            go_wp2_with fail
            refine bodyPost_ret (v := .tuple #[.int .u64 (m : Int), .int .i64 ((j : Int) + 1), .bool true]) (by simp [results, Try.results18, go_sem]) rfl (show DigTo w bs _ _ from ⟨hbel, Or.inl ⟨m, s, hm64, HR.out.1, by rw [HR.out.2]; rfl⟩⟩)
          · have h0' : ((j : Int) == 0) = false := by simp; omega
            by_cases hd0 : 0 < d
            · have hd0' : decide (0 < d) = true := decide_eq_true hd0
              go_wp2_with fail
              refine bodyPost_ret (v := .tuple #[.int .u64 (m : Int), .int .i64 ((j : Int) + 1), .bool true]) (by simp [results, Try.results18, go_sem]) rfl (show DigTo w bs _ _ from ⟨hbel, Or.inl ⟨m, s, hm64, (hres.out (Or.inr hd0)).1, by rw [(hres.out (Or.inr hd0)).2]; rfl⟩⟩)
            · have hd0' : decide (0 < d) = false := decide_eq_false hd0
              have HNO : Hid (DigNo bs) := by
                show DigNo bs
                have hx0 : x = 0 := by have := HXD.out; omega
                rw [HS.out, hx0]
                exact digNo_zero HC.out (fun h => h0 (by have := HLE.out; rw [h] at this; exact this.symm))
              go_wp2_with fail
              refine bodyPost_ret (v := .tuple #[.int .u64 (m : Int), .int .i64 ((j : Int) + 1), .bool false]) (by simp [results, Try.results18, go_sem]) rfl (show DigTo w bs _ _ from ⟨hbel, Or.inr ⟨HNO.out, _, _, rfl⟩⟩)
        · have x1 : ¬ (x : Int) < 128 := by omega
          have HNEW : Hid (Cont (bs.take (j + 1)) ∧ m = val7 (bs.take (j + 1))) := by
            rw [HN.out]
            refine ⟨cont_snoc HC.out (by omega) hx256, ?_⟩
            rw [val7_snoc, HD.out, HV.out]
          clear HS HN HV
          go_wp2_with fail
          go_roundw
          case rel => exact ⟨j + 1, m, by go_num, by rfl, by omega, hm64, HNEW, hbel⟩
          case measure => simp [RowKit.intOf]; omega
      · have HNO : Hid (DigNo bs) := by
          show DigNo bs
          rw [HS.out]
          refine digNo_big hcont ?_
          rw [hd, hlen]
          omega
        have hq : ¬ _ := fun h => hroom (hsr.1 h)
        obtain ⟨p, hp⟩ : ∃ p, (if j ≤ 9 then d * 128 ^ j else 0) % 18446744073709551616 = p := ⟨_, rfl⟩
        rw [hp] at hsh hq
        have ht : (((p : Int) / 2 ^ min (7 * j) 64) != (d : Int)) = true := by
          rw [Int.natCast_ediv] at hq
          simp only [bne_iff_ne, ne_eq]
          simpa using hq
        have h0 : j ≠ 0 := fun h => by subst h; omega
        clear hsr hq hp hroom hun7 hcont hu7
        go_wp2_with fail
        refine bodyPost_ret (v := .tuple #[.int .u64 0, .int .i64 0, .bool false]) (by simp [results, Try.results18, go_sem]) rfl (show DigTo w bs _ _ from ⟨hbel, Or.inr ⟨HNO.out, _, _, rfl⟩⟩)
    · obtain rfl : j = n := by omega
      have hno : DigNo bs := by
        have h1 := hv.out.1
        rw [List.take_of_length_le (by rw [HL.out]; omega)] at h1
        exact digNo_end h1
      have HNO := Lib.hid hno
      clear hno
      go_wp2_with fail
      refine bodyPost_ret (v := .tuple #[.int .u64 0, .int .i64 0, .bool false]) (by simp [results, Try.results18, go_sem]) rfl (show DigTo w bs _ _ from ⟨hbel, Or.inr ⟨HNO.out, _, _, rfl⟩⟩)
end Go.Proofs.Ytbiggclekgpgeaa
