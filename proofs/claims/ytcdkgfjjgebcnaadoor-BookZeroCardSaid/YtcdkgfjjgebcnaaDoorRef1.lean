/- The contracts of the long numbers' digits (trivetref01): at, norm, plus, less, minus. -/
import Derived.Test.YtcdkgfjjgebcnaaDoorProg
import Derived.Test.YtcdkgfjjgebcnaaDoorLong
import Derived.Test.YtcdkgfjjgebcnaaDoorApp
import Derived.WalkKit
import Derived.ProofKit
import Derived.OpenShut
import Derived.LoopTactic
import Derived.RegionTactic
import Derived.Deep.QuietTactic
import Derived.BigQuiet
import Derived.Lib.Hide
import Derived.Deep.Draws
import Derived.Below
import Derived.WalkSpells
import Derived.Handy
namespace Go.Proofs.YtcdkgfjjgebcnaaDoor
open Go Go.RowKit
set_option linter.unusedVariables false

/-- a slice's length -/
def slen : Value → Nat | .slice _ k _ => k | _ => 0

def d64 (d : Nat) : Value := .int .u64 (d : Int)

theorem info_u64 : (Tryd.prog.info? 84).map (fun i => (i.zero, i.size, i.bytes)) = some (some (.int .u64 0), 1, 8) := by kernel_rfl
theorem Tu64 : SliceT Tryd.prog 52 84 (.int .u64 0) 8 := ⟨Tryd.underlying52, info_u64, by decide⟩

theorem d64_one (ds : List Nat) : ∀ u ∈ ds.map d64, u.oneCell' = true := by
  intro u hu
  obtain ⟨d, _, rfl⟩ := List.mem_map.1 hu
  rfl

theorem Cells.up {w w' : World} {a : Option Addr} {len : Nat} {vs : List Value} (h : Cells w a len vs) (hb : Below w.heap.size w w') : Cells w' a len vs := by
  refine h.below hb fun x hx => ?_
  rcases h.2 with h0 | ⟨b, off, rfl, hc⟩
  · exact Or.inl h0
  · by_cases h0 : len = 0
    · exact Or.inl h0
    · cases hx
      exact Or.inr (cell_lt (hc 0 (by omega)))

theorem Cells.digit {w : World} {a : Option Addr} {len : Nat} {ds : List Nat} (h : Cells w a len (ds.map d64)) {i : Nat} (hi : i < len) :
    ∃ b off, a = some ⟨b, off, none⟩ ∧ w.cell? ⟨b, off + i, none⟩ = some (.int .u64 (ds.getD i 0 : Nat)) := by
  obtain ⟨h1, h2⟩ := h
  rw [List.length_map] at h1
  rcases h2 with h0 | ⟨b, off, rfl, hc⟩
  · omega
  · refine ⟨b, off, rfl, ?_⟩
    rw [hc i hi]
    simp [List.getD, d64, show i < ds.length by omega]

theorem Cells.take {w : World} {a : Option Addr} {len : Nat} {ds : List Nat} (h : Cells w a len (ds.map d64)) {k : Nat} (hk : k ≤ len) : Cells w a k ((ds.take k).map d64) := by
  obtain ⟨h1, h2⟩ := h
  rw [List.length_map] at h1
  refine ⟨by rw [List.length_map, List.length_take]; omega, ?_⟩
  rcases h2 with h0 | ⟨b, off, rfl, hc⟩
  · exact Or.inl (by omega)
  · refine Or.inr ⟨b, off, rfl, fun j hj => ?_⟩
    rw [hc j (by omega)]
    simp [List.getD, hj]

theorem cells_new (w : World) (v : Value) (t : TypeId) : Cells (w.alloc (.cells #[v] t)) (some ⟨w.heap.size, 0, none⟩) 1 [v] :=
  ownsRow_cells (World.ownsRow_lit (base := 0) w #[v] 1 (Nat.zero_le _) (by decide) rfl)

theorem Cells.set {w : World} {a : Option Addr} {len : Nat} {vs : List Value} (h : Cells w a len vs) (p : Addr) (v : Value) (hne : ∀ x, a = some x → len = 0 ∨ x.block ≠ p.block) : Cells (w.setCell p v) a len vs := by
  obtain ⟨h1, h2⟩ := h
  refine ⟨h1, ?_⟩
  rcases h2 with h2 | ⟨b, off, rfl, hc⟩
  · exact Or.inl h2
  · rcases hne _ rfl with h0 | h0
    · exact Or.inl h0
    · refine Or.inr ⟨b, off, rfl, fun j hj => ?_⟩
      rw [World.cell?_setCell_other]
      · exact hc j hj
      · intro e; rw [e] at h0; exact h0 rfl

theorem Cells.blk {w : World} {a : Option Addr} {len : Nat} {vs : List Value} (h : Cells w a len vs) : ∀ x, a = some x → len = 0 ∨ x.block < w.heap.size := by
  intro x hx
  rcases h.2 with h0 | ⟨b, off, rfl, hc⟩
  · exact Or.inl h0
  · by_cases h0 : len = 0
    · exact Or.inl h0
    · cases hx
      exact Or.inr (cell_lt (hc 0 (by omega)))

/-! ### at -/

theorem at_any (a : Option Addr) (len cap : Nat) (ds : List Nat) (i x : Nat) (w : World) (hx : ds.getD i 0 = x) (h : Cells w a len (ds.map d64)) (hlen : len ≤ 1000000000) (hi : i ≤ 1000000000) :
    Calls Tryd.prog 54 #[.slice a len cap, .int .i64 i] w fun e w' => e = .returned (.int .u64 (x : Int)) ∧ w' = w := by
  by_cases hlt : i < len
  · obtain ⟨b, off, rfl, hc⟩ := h.digit hlt
    rw [hx] at hc
    have c1 : (i : Int) < (len : Int) := by omega
    have c2 : (0 : Int) ≤ (i : Int) := by omega
    clear hx
    go_enter Tryd.func54, Tryd.ntmps54
    go_wp2
    go_ret
    exact ⟨rfl, rfl⟩
  · have hl : ds.length = len := by have := h.1; rwa [List.length_map] at this
    have h0 : x = 0 := by rw [← hx]; simp [List.getD, List.getElem?_eq_none (show ds.length ≤ i by omega)]
    subst h0
    have c1 : ¬ (i : Int) < (len : Int) := by omega
    clear hx
    go_enter Tryd.func54, Tryd.ntmps54
    go_wp2
    go_ret
    exact ⟨rfl, rfl⟩

/-! ### norm -/

theorem take_zero_top {ds : List Nat} {k : Nat} (hk : k + 1 ≤ ds.length) (h : ds.getD k 0 = 0) : val (ds.take k) = val (ds.take (k + 1)) := by
  rw [val_take, h]; omega

def NormTo (w : World) (a : Option Addr) (cap : Nat) (ds : List Nat) (minus : Bool) (e : Ending) (w' : World) : Prop :=
  ∃ k : Nat, k ≤ ds.length ∧ e = .returned (.agg #[.slice a k cap, .bool (minus && decide (0 < k))]) ∧ Canon (ds.take k) ∧ val (ds.take k) = val ds ∧ Below w.heap.size w w'

set_option maxHeartbeats 1000000 in
theorem norm_any (a : Option Addr) (len cap : Nat) (ds : List Nat) (minus : Bool) (w : World) (h : Cells w a len (ds.map d64)) (hd : Digits ds) (hlen : len ≤ 1000000000) (hcap : len ≤ cap) :
    Calls Tryd.prog 40 #[.slice a len cap, .bool minus] w (NormTo w a cap ds minus) := by
  have hl : ds.length = len := by have := h.1; rwa [List.length_map] at this
  have HL := Lib.hid hl
  have HC : Hid (∀ i, i < len → ∃ b off, a = some ⟨b, off, none⟩ ∧ w.cell? ⟨b, off + i, none⟩ = some (.int .u64 (ds.getD i 0 : Nat))) := fun i hi => h.digit hi
  clear hl h
  go_enter Tryd.func40, Tryd.ntmps40
  go_wp2_with fail
  go_loop [0] (fun s => ∃ k : Nat, k ≤ len ∧ s = .slice a k cap ∧ val (ds.take k) = val ds) (fun s => slen s)
  case atStart => exact ⟨len, Nat.le_refl _, rfl, by rw [List.take_of_length_le (by rw [HL.out]; exact Nat.le_refl _)]⟩
  case round =>
    obtain ⟨k, hk, rfl, hv⟩ := hrel
    by_cases h0 : k = 0
    · subst h0
      cases minus
      all_goals
        go_wp2
        go_returns
        exact ⟨0, Nat.zero_le _, rfl, by rw [List.take_zero]; exact canon_nil, hv, (Below.refl _ _).alloc (Nat.le_refl _) _⟩
    · obtain ⟨j, rfl⟩ : ∃ j, k = j + 1 := ⟨k - 1, by omega⟩
      obtain ⟨b, off, rfl, hc⟩ := HC.out j (by omega)
      obtain ⟨x, hx⟩ : ∃ x, ds.getD j 0 = x := ⟨_, rfl⟩
      rw [hx] at hc
      have hb := cell_lt hc
      have hc' := old_cell ((Below.refl w.heap.size w).alloc (Nat.le_refl _) (Obj.cells #[Value.slice none 0 0, Value.bool false] 54)) hc hb
      have HX := Lib.hid hx
      clear hx hc
      have c1 : (0 : Int) < (j : Int) + 1 := by omega
      by_cases hz : x = 0
      · subst hz
        have hv' : val (ds.take j) = val ds := by rw [take_zero_top (by rw [HL.out]; omega) HX.out]; exact hv
        have e1 : j ≤ j + 1 := by omega
        have e2 : j ≤ cap := by omega
        go_wp2
        go_round
        case rel => exact ⟨j, by omega, rfl, hv'⟩
        case measure => simp [slen]
      · have hz' : ((x : Int) == 0) = false := by simp; omega
        have hcan : Canon (ds.take (j + 1)) := by
          refine ⟨hd.take _, fun hne => ?_⟩
          rw [List.getLast_eq_getElem]
          have hl2 : (ds.take (j + 1)).length = j + 1 := by rw [List.length_take, HL.out]; omega
          have : (ds.take (j + 1))[(ds.take (j + 1)).length - 1]'(by omega) = ds.getD j 0 := by
            simp only [hl2, List.getElem_take]
            simp [List.getD, show j < ds.length by rw [HL.out]; omega]
          rw [this, HX.out]
          exact hz
        cases minus
        all_goals
          go_wp2
          go_returns
          exact ⟨j + 1, by rw [HL.out]; omega, by simp, hcan, hv, (Below.refl _ _).alloc (Nat.le_refl _) _⟩

/-! ### plus -/

theorem d64_snoc (l : List Nat) (d : Nat) : l.map d64 ++ [d64 d] = (l ++ [d]).map d64 := by simp

/-- a nil slice has no room; any other one begins at its block's head -/
def NilOk (a : Option Addr) (cap : Nat) : Prop := (a = none → cap = 0) ∧ ∀ x, a = some x → x.off = 0
theorem nil_none : NilOk none 0 := ⟨fun _ => rfl, fun x hx => by cases hx⟩
theorem nil_some (g cap : Nat) : NilOk (some ⟨g, 0, none⟩) cap := ⟨(fun h => by cases h), fun x hx => by cases hx; rfl⟩

/-- what an own row of digits looks like -/
theorem own_slice {w : World} {B n : Nat} {v : Value} {ds : List Nat} (h : w.ownsRow B 84 1 v n (ds.map d64)) :
    ∃ a cap, v = .slice a n cap ∧ Cells w a n (ds.map d64) ∧ NilOk a cap ∧ n ≤ cap ∧ ∀ x, a = some x → B ≤ x.block := by
  rcases h.2 with ⟨rfl, rfl⟩ | ⟨g, cap, cur, rfl, hB, _, hc, _⟩
  · exact ⟨none, 0, rfl, ⟨by have := h.1; omega, Or.inl rfl⟩, nil_none, Nat.le_refl _, fun x hx => by cases hx⟩
  · exact ⟨_, cap, rfl, ownsRow_cells h, nil_some _ _, hc, fun x hx => by cases hx; exact hB⟩

def PlusTo (w : World) (n : Nat) (m : Nat) (e : Ending) (w' : World) : Prop :=
  ∃ (v : Value) (ds : List Nat) (k : Nat), e = .returned v ∧ w'.ownsRow w.heap.size 84 1 v k (ds.map d64) ∧ Digits ds ∧ val ds = n ∧ k ≤ m + 1 ∧ Below w.heap.size w w'

theorem beyond {l : List Nat} {k : Nat} (h : l.length ≤ k) : l.getD k 0 = 0 := by simp [List.getD, List.getElem?_eq_none h]

set_option maxHeartbeats 4000000 in
theorem plus_any (a b : Option Addr) (la lb ca cb : Nat) (xs ys : List Nat) (w : World) (ha : Cells w a la (xs.map d64)) (hb : Cells w b lb (ys.map d64)) (da : Digits xs) (db : Digits ys)
    (hla : la ≤ 1000000) (hlb : lb ≤ 1000000) :
    Calls Tryd.prog 41 #[.slice a la ca, .slice b lb cb] w (PlusTo w (val xs + val ys) (max la lb)) := by
  have HA : Hid (xs.length = la) := by have := ha.1; rwa [List.length_map] at this
  have HB : Hid (ys.length = lb) := by have := hb.1; rwa [List.length_map] at this
  have CA : Hid (∀ W, Below w.heap.size w W → Cells W a la (xs.map d64)) := fun W hW => ha.up hW
  have CB : Hid (∀ W, Below w.heap.size w W → Cells W b lb (ys.map d64)) := fun W hW => hb.up hW
  obtain ⟨m, hm1, hm2, hm3⟩ : ∃ m, la ≤ m ∧ lb ≤ m ∧ m = max la lb := ⟨_, Nat.le_max_left _ _, Nat.le_max_right _ _, rfl⟩
  have hm4 : m ≤ 1000000 := by omega
  rw [← hm3]
  clear ha hb hm3
  go_enter Tryd.func41, Tryd.ntmps41
  go_wp2_with fail
  go_loopw [5, 6, 7] (fun v c i wr => ∃ (k cn : Nat) (ds : List Nat), k ≤ m + 1 ∧ (k = m + 1 → cn = 0) ∧ cn ≤ 1 ∧ i = .int .i64 k ∧ c = .int .u64 cn ∧
      wr.ownsRow w.heap.size 84 1 v k (ds.map d64) ∧ Digits ds ∧ val ds + cn * 65536 ^ k = val (xs.take k) + val (ys.take k) ∧ Below w.heap.size w wr) (fun _ _ i _ => m + 1 - (RowKit.intOf i).toNat)
  case atStart => exact ⟨0, 0, [], by omega, fun _ => rfl, by omega, rfl, rfl, World.ownsRow_nil _ _ _ _, digits_nil, by simp [val], Below.refl _ _⟩
  case round =>
    obtain ⟨k, cn, ds, hk, hkc, hcn, rfl, rfl, hown, hds, hval, hbel⟩ := hrel
    have hlen : ds.length = k := by have := hown.1; rw [List.length_map] at this; omega
    obtain ⟨x, hx⟩ : ∃ x, xs.getD k 0 = x := ⟨_, rfl⟩
    obtain ⟨y, hy⟩ : ∃ y, ys.getD k 0 = y := ⟨_, rfl⟩
    have hx1 : x < 65536 := by rw [← hx]; exact da.get k
    have hy1 : y < 65536 := by rw [← hy]; exact db.get k
    have hst := plus_step rfl hlen hval
    rw [hx, hy] at hst
    obtain ⟨d, hd⟩ : ∃ d, (x + y + cn) % 65536 = d := ⟨_, rfl⟩
    obtain ⟨q, hq⟩ : ∃ q, (x + y + cn) / 65536 = q := ⟨_, rfl⟩
    rw [hd, hq] at hst
    have hd1 : d < 65536 := by omega
    have hq1 : q ≤ 1 := by omega
    have ed : ((x : Int) + (y : Int) + (cn : Int)) % 65536 = (d : Int) := by omega
    have eq : ((x : Int) + (y : Int) + (cn : Int)) / 65536 = (q : Int) := by omega
    have hqm : k = m → q = 0 := by
      intro h
      have h1 := beyond (l := xs) (k := k) (by rw [HA.out]; omega)
      have h2 := beyond (l := ys) (k := k) (by rw [HB.out]; omega)
      omega
    have M3 : Hid (k + 1 ≤ maxLen) := by show k + 1 ≤ maxLen; simp only [maxLen]; omega
    have HX := Lib.hid hx
    have HY := Lib.hid hy
    have HS := Lib.hid hst
    have HO := Lib.hid hown
    have HQM := Lib.hid hqm
    have HKC := Lib.hid hkc
    have HV := Lib.hid hval
    clear hx hy hst hown hd hq hqm hval hlen hkc
    have stop : (¬ k < la ∧ ¬ k < lb ∧ cn = 0) ∨ (k ≤ m ∧ (k < la ∨ k < lb ∨ 0 < cn)) := by
      by_cases h1 : k < la
      · exact Or.inr ⟨by omega, Or.inl h1⟩
      · by_cases h2 : k < lb
        · exact Or.inr ⟨by omega, Or.inr (Or.inl h2)⟩
        · by_cases h3 : cn = 0
          · exact Or.inl ⟨h1, h2, h3⟩
          · refine Or.inr ⟨?_, Or.inr (Or.inr (by omega))⟩
            have := HKC.out
            omega
    rcases stop with ⟨s1, s2, s3⟩ | ⟨s0, s1⟩
    · subst s3
      have t1 : ¬ (k : Int) < (la : Int) := by omega
      have t2 : ¬ (k : Int) < (lb : Int) := by omega
      have fin : val ds = val xs + val ys := by
        have := HV.out
        rw [List.take_of_length_le (by rw [HA.out]; omega), List.take_of_length_le (by rw [HB.out]; omega)] at this
        omega
      have FIN := Lib.hid fin
      clear fin
      go_wp2
      go_ret
      exact ⟨_, ds, k, rfl, HO.out, hds, FIN.out, hk, hbel⟩
    · rcases (show k < la ∨ (¬ k < la ∧ k < lb) ∨ (¬ k < la ∧ ¬ k < lb ∧ 0 < cn) by omega) with s2 | ⟨s2, s3⟩ | ⟨s2, s3, s4⟩
      all_goals
        clear s1
        go_wp2_with fail
        refine (at_any a la ca xs k x _ HX.out (CA.out _ hbel) (by omega) (by omega)).mono ?_
        rintro e w' ⟨rfl, rfl⟩
        go_wp2_with fail
        refine (at_any b lb cb ys k y _ HY.out (CB.out _ hbel) (by omega) (by omega)).mono ?_
        rintro e w' ⟨rfl, rfl⟩
        go_wp2_with (at_builtin; refine wpList_append_cells rfl (.tmp 34) (.tmp 37) 52 rfl w.heap.size Tu64 _ k (ds.map d64) rfl (HO.out.alloc _) (some ⟨_, 0, none⟩) 1 1 [d64 d] rfl (fun h => by cases h) (cells_new _ _ _) (d64_one [d]) M3.out (by omega) (Nat.le_trans hbel.size (by simp)) ?_; intro v1 w1 o1 q1 r1 l1)
        have hb1 : Below w.heap.size w w1 := (hbel.alloc hbel.size _).grown q1 (Nat.le_trans hbel.size (by simp)) (fun z hz => (HO.out.lt z hz).1)
        rw [d64_snoc] at o1
        go_roundw
        case rel => exact ⟨k + 1, q, ds ++ [d], by omega, (fun h => HQM.out (by omega)), hq1, by go_num, by rw [eq], o1, hds.snoc hd1, HS.out, hb1⟩
        case measure => simp [RowKit.intOf]; omega

/-! ### less -/

set_option maxHeartbeats 2000000 in
theorem less_any (a b : Option Addr) (la lb ca cb : Nat) (xs ys : List Nat) (w : World) (ha : Cells w a la (xs.map d64)) (hb : Cells w b lb (ys.map d64)) (da : Canon xs) (db : Canon ys)
    (hla : la ≤ 1000000) (hlb : lb ≤ 1000000) :
    Calls Tryd.prog 42 #[.slice a la ca, .slice b lb cb] w fun e w' => e = .returned (.bool (decide (val xs < val ys))) ∧ ∃ n, w' = World.drewN w n := by
  have HA : Hid (xs.length = la) := by have := ha.1; rwa [List.length_map] at this
  have HB : Hid (ys.length = lb) := by have := hb.1; rwa [List.length_map] at this
  by_cases hne : la = lb
  · subst hne
    have CA : Hid (∀ i, i < la → ∃ b off, a = some ⟨b, off, none⟩ ∧ w.cell? ⟨b, off + i, none⟩ = some (.int .u64 (xs.getD i 0 : Nat))) := fun i hi => ha.digit hi
    have CB : Hid (∀ i, i < la → ∃ b' off, b = some ⟨b', off, none⟩ ∧ w.cell? ⟨b', off + i, none⟩ = some (.int .u64 (ys.getD i 0 : Nat))) := fun i hi => hb.digit hi
    have t0 : ((la : Int) != (la : Int)) = false := by simp
    go_enter Tryd.func42, Tryd.ntmps42
    go_wp2_with fail
    go_loopw [5] (fun i wr => ∃ k : Nat, k ≤ la ∧ i = .int .i64 ((k : Int) - 1) ∧ val xs + val (ys.take k) = val ys + val (xs.take k) ∧ ∃ q, wr = World.drewN w q) (fun i _ => (RowKit.intOf i + 1).toNat)
    case atStart => exact ⟨la, Nat.le_refl _, rfl, by rw [List.take_of_length_le (by rw [HB.out]; exact Nat.le_refl _), List.take_of_length_le (by rw [HA.out]; exact Nat.le_refl _)]; omega, 0, rfl⟩
    case round =>
      obtain ⟨k, hk, rfl, hv, q, rfl⟩ := hrel
      have HV := Lib.hid hv
      clear hv
      by_cases h0 : k = 0
      · subst h0
        have fin : decide (val xs < val ys) = false := by
          have := HV.out
          simp only [List.take_zero] at this
          simp; omega
        have FIN := Lib.hid fin
        clear fin
        go_wp2
        go_ret
        exact ⟨by rw [FIN.out]; rfl, _, rfl⟩
      · obtain ⟨j, rfl⟩ : ∃ j, k = j + 1 := ⟨k - 1, by omega⟩
        obtain ⟨b1, o1, rfl, c1⟩ := CA.out j (by omega)
        obtain ⟨b2, o2, rfl, c2⟩ := CB.out j (by omega)
        obtain ⟨x, hx⟩ : ∃ x, xs.getD j 0 = x := ⟨_, rfl⟩
        obtain ⟨y, hy⟩ : ∃ y, ys.getD j 0 = y := ⟨_, rfl⟩
        have dn := less_down (a := xs) (b := ys) (i := j) HV.out
        have dg := less_digit (a := xs) (b := ys) (i := j) da.1 db.1 HV.out
        rw [hx] at c1
        rw [hy] at c2
        rw [hx, hy] at dn dg
        have DN := Lib.hid dn
        have DG := Lib.hid dg
        clear hx hy dn dg
        have i1 : (0 : Int) ≤ (j : Int) + 1 - 1 := by omega
        have i2 : (j : Int) < (la : Int) := by omega
        by_cases he : x = y
        · subst he
          go_wp2_with fail
          go_quiet (fail)
          go_wp2_with fail
          go_roundw
          case rel =>
            refine ⟨j, by omega, by congr 1, DN.out trivial, ?_⟩
            first | exact ⟨_, rfl⟩ | exact ⟨_, World.drewN_drewN _ _ _⟩
          case measure => simp [RowKit.intOf]
        · have he' : ((x : Int) != (y : Int)) = true := by simp; omega
          have fin : decide ((x : Int) < (y : Int)) = decide (val xs < val ys) := by
            have h := DG.out he
            by_cases h1 : x < y
            · have h2 := h.2 h1
              have h3 : (x : Int) < (y : Int) := by omega
              rw [decide_eq_true h2, decide_eq_true h3]
            · have h2 : ¬ val xs < val ys := fun e => h1 (h.1 e)
              have h3 : ¬ (x : Int) < (y : Int) := by omega
              rw [decide_eq_false h2, decide_eq_false h3]
          have FIN := Lib.hid fin
          clear fin
          go_wp2_with fail
          go_quiet (fail)
          go_wp2_with fail
          go_quiet (fail)
          go_wp2_with fail
          go_ret
          refine ⟨by rw [← FIN.out]; simp, ?_⟩
          first | exact ⟨_, rfl⟩ | exact ⟨_, World.drewN_drewN _ _ _⟩ | exact ⟨_, by rw [World.drewN_drewN, World.drewN_drewN]⟩
  · have t0 : ((la : Int) != (lb : Int)) = true := by simp; omega
    have fin : decide ((la : Int) < (lb : Int)) = decide (val xs < val ys) := by
      have h := less_len da db (by rw [HA.out, HB.out]; exact hne)
      rw [HA.out, HB.out] at h
      by_cases h1 : la < lb
      · rw [decide_eq_true (h.2 h1), decide_eq_true (show (la : Int) < (lb : Int) by omega)]
      · rw [decide_eq_false (fun e => h1 (h.1 e)), decide_eq_false (show ¬ (la : Int) < (lb : Int) by omega)]
    have FIN := Lib.hid fin
    clear fin
    go_enter Tryd.func42, Tryd.ntmps42
    go_wp2_with fail
    go_ret
    exact ⟨by rw [← FIN.out]; simp, 0, rfl⟩

/-! ### minus -/

theorem run_field_D (a : Option Addr) (l c : Nat) (m : Bool) (w : World) : (Instr.field 54 (.agg #[.slice a l c, .bool m]) 0).run Tryd.prog w = .ok (.slice a l c) w := by kernel_rfl


def MinusTo (w : World) (n : Nat) (e : Ending) (w' : World) : Prop :=
  ∃ (a : Option Addr) (len cap : Nat) (ds : List Nat), e = .returned (.slice a len cap) ∧ Cells w' a len (ds.map d64) ∧ NilOk a cap ∧ len ≤ cap ∧ (∀ x, a = some x → w.heap.size ≤ x.block) ∧ Canon ds ∧ val ds = n ∧ Below w.heap.size w w'

set_option maxHeartbeats 4000000 in
theorem minus_any (a b : Option Addr) (la lb ca cb : Nat) (xs ys : List Nat) (w : World) (ha : Cells w a la (xs.map d64)) (hb : Cells w b lb (ys.map d64)) (da : Digits xs) (db : Digits ys)
    (hla : la ≤ 1000000) (hlb : lb ≤ la) (hle : val ys ≤ val xs) :
    Calls Tryd.prog 43 #[.slice a la ca, .slice b lb cb] w (MinusTo w (val xs - val ys)) := by
  have HA : Hid (xs.length = la) := by have := ha.1; rwa [List.length_map] at this
  have HB : Hid (ys.length = lb) := by have := hb.1; rwa [List.length_map] at this
  have CA : Hid (∀ W, Below w.heap.size w W → Cells W a la (xs.map d64)) := fun W hW => ha.up hW
  have CB : Hid (∀ W, Below w.heap.size w W → Cells W b lb (ys.map d64)) := fun W hW => hb.up hW
  have HLE := Lib.hid hle
  clear ha hb hle
  go_enter Tryd.func43, Tryd.ntmps43
  go_wp2_with fail
  go_loopw [5, 6, 7] (fun v c i wr => ∃ (k cn : Nat) (ds : List Nat), k ≤ la ∧ cn ≤ 1 ∧ i = .int .i64 k ∧ c = .int .u64 cn ∧
      wr.ownsRow w.heap.size 84 1 v k (ds.map d64) ∧ Digits ds ∧ val (xs.take k) + cn * 65536 ^ k = val ds + val (ys.take k) ∧ Below w.heap.size w wr) (fun _ _ i _ => la - (RowKit.intOf i).toNat)
  case atStart => exact ⟨0, 0, [], by omega, by omega, rfl, rfl, World.ownsRow_nil _ _ _ _, digits_nil, by simp [val], Below.refl _ _⟩
  case round =>
    obtain ⟨k, cn, ds, hk, hcn, rfl, rfl, hown, hds, hval, hbel⟩ := hrel
    have hlen : ds.length = k := by have := hown.1; rw [List.length_map] at this; omega
    by_cases hlt : k < la
    · obtain ⟨x, hx⟩ : ∃ x, xs.getD k 0 = x := ⟨_, rfl⟩
      obtain ⟨y, hy⟩ : ∃ y, ys.getD k 0 = y := ⟨_, rfl⟩
      have hx1 : x < 65536 := by rw [← hx]; exact da.get k
      have hy1 : y < 65536 := by rw [← hy]; exact db.get k
      have hst := minus_step rfl hx hy hx1 hy1 hcn hlen hval
      obtain ⟨b1, o1, rfl, c1⟩ := (CA.out _ hbel).digit hlt
      rw [hx] at c1
      obtain ⟨d, hd⟩ : ∃ d, (65536 + x - y - cn) % 65536 = d := ⟨_, rfl⟩
      obtain ⟨q, hq⟩ : ∃ q, 1 - (65536 + x - y - cn) / 65536 = q := ⟨_, rfl⟩
      rw [hd, hq] at hst
      have hd1 : d < 65536 := by omega
      have hq1 : q ≤ 1 := by omega
      have ed : (65536 + (x : Int) - (y : Int) - (cn : Int)) % 65536 = (d : Int) := by omega
      have eq : 1 - (65536 + (x : Int) - (y : Int) - (cn : Int)) / 65536 = (q : Int) := by omega
      have hdiv : 0 ≤ (65536 + (x : Int) - (y : Int) - (cn : Int)) / 65536 ∧ (65536 + (x : Int) - (y : Int) - (cn : Int)) / 65536 ≤ 1 := by omega
      have i1 : (0 : Int) ≤ (k : Int) := by omega
      have i2 : (k : Int) < (la : Int) := by omega
      have M3 : Hid (k + 1 ≤ maxLen) := by show k + 1 ≤ maxLen; simp only [maxLen]; omega
      have HY := Lib.hid hy
      have HS := Lib.hid hst
      have HO := Lib.hid hown
      clear hx hy hst hown hd hq hval hlen
      go_wp2_with fail
      go_quiet ((go_at_call 54; exact Calls.quiet_of_same (at_any b lb cb ys k y _ HY.out (CB.out _ (below_drewN hbel _)) (by omega) (by omega))))
      go_wp2_with (at_builtin; refine wpList_append_cells rfl (.tmp 26) (.tmp 29) 52 rfl w.heap.size Tu64 _ k (ds.map d64) rfl (World.ownsRow.alloc (w := World.drewN _ _) HO.out _) (some ⟨_, 0, none⟩) 1 1 [d64 d] rfl (fun h => by cases h) (cells_new _ _ _) (d64_one [d]) M3.out (by omega) (Nat.le_trans hbel.size (by simp)) ?_; intro v1 w1 o1 q1 r1 l1)
      have hb1 : Below w.heap.size w w1 := ((below_drewN hbel _).alloc hbel.size _).grown q1 (Nat.le_trans hbel.size (by simp)) (fun z hz => (HO.out.lt z hz).1)
      rw [d64_snoc] at o1
      go_roundw
      case rel => exact ⟨k + 1, q, ds ++ [d], by omega, hq1, by go_num, rfl, o1, hds.snoc hd1, HS.out, hb1⟩
      case measure => simp [RowKit.intOf]; omega
    · have hk' : k = la := by omega
      subst hk'
      obtain ⟨g, cp, rfl, hcl, hnil, hcp, hgb⟩ := own_slice hown
      have fin := minus_end hds (by rw [hlen, HA.out]) (by rw [HA.out, HB.out]; exact hlb) (by rw [HA.out]; exact hval) HLE.out
      have FIN := Lib.hid fin
      clear fin hval hlen hown
      go_wp2_with fail
      have hfd := fun (w : World) (j : Nat) (m : Bool) => run_field_D g j cp m w
      refine (norm_any g k cp ds false _ hcl hds (by omega) hcp).mono ?_
      rintro e w2 ⟨j, hj, rfl, hcan, hv, hb2⟩
      go_wp2_with fail
      go_ret
      have hcl2 := hcl.up hb2
      have hkl : ds.length = k := by have := hcl.1; rwa [List.length_map] at this
      exact ⟨g, j, cp, ds.take j, rfl, hcl2.take (by omega), hnil, by omega, hgb, hcan, by rw [hv]; have := FIN.out; omega, hbel.trans (hb2.mono hbel.size)⟩
end Go.Proofs.YtcdkgfjjgebcnaaDoor
