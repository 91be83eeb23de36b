/- The walk of CentsStays: numbers that are handed in stay as they are. -/
import Derived.Test.YtheplpfhgifkcaaSum
import Derived.Test.YtheplpfhgifkcaaApp
import Derived.Laws.AppendOwnNone
import Derived.RegionTactic
import Derived.Below
import Derived.WalkSpells
import Derived.Deep.DeepMust
import Derived.OwnWalk
import Derived.WalkSmall
import Derived.OpenShut
namespace Go.Proofs.Ytheplpfhgifkcaa
open Go Go.RowKit
set_option linter.unusedVariables false

/-- what the frame tells of a slice of integers that came in -/
def IsRow (k : IntKind) (w : World) (a : Option Addr) (len cap : Nat) (zs : List Int) : Prop :=
  (a = none ∧ len = 0 ∧ cap = 0 ∧ zs = []) ∨
  ∃ x, a = some x ∧ len ≤ cap ∧ cap ≤ maxLen ∧ zs.length = cap ∧ (∀ i, i < zs.length → w.cell? (x.add i) = some (.int k (zs.getD i 0))) ∧ ∀ n ∈ zs, (Lit.int k n).wf = true

theorem info_i64 : (Try.prog.info? 2).map (fun i => (i.zero, i.size, i.bytes)) = some (some (.int .i64 0), 1, 8) := by kernel_rfl

theorem row_elems {w : World} {a : Option Addr} {len cap : Nat} {zs : List Int} (h : IsRow .i64 w a len cap zs) : Elems w a len (zs.take len) ∧ len ≤ cap ∧ cap ≤ maxLen := by
  rcases h with ⟨rfl, rfl, rfl, rfl⟩ | ⟨x, rfl, hl, hm, hz, hc, hwz⟩
  · exact ⟨⟨rfl, by simp, Or.inl rfl⟩, Nat.le_refl _, by simp [maxLen]⟩
  · refine ⟨⟨by rw [List.length_take]; omega, fun n hn => i64_bounds (hwz n (List.mem_of_mem_take hn)), ?_⟩, hl, hm⟩
    by_cases h0 : len = 0
    · exact Or.inl h0
    · obtain ⟨b, off, rfl, hc'⟩ := ints_at hc (by omega)
      refine Or.inr ⟨b, off, rfl, fun j hj => ?_⟩
      rw [hc' j (by omega)]
      simp [List.getD, hj]

set_option maxHeartbeats 1000000 in
theorem stays_long (a : Option Addr) (len cap : Nat) (w : World) (h : 1000 < len) (hm : len ≤ 9223372036854775807) :
    Calls Try.prog 8 #[.slice a len cap] w fun e w' => e = .returned (.bool true) ∧ Below w.heap.size w w' := by
  have c : (1000 : Int) < (len : Int) := by omega
  go_enter Try.func8, Try.ntmps8
  go_wp2_with fail
  refine (up_any _).mono ?_
  rintro e w' ⟨rfl, n, rfl⟩
  go_wp2_with fail
  go_ret
  exact ⟨rfl, below_drewN (Below.refl _ _) _⟩

set_option maxHeartbeats 1000000 in
theorem stays_nil (cap : Nat) (w : World) :
    Calls Try.prog 8 #[.slice none 0 cap] w fun e w' => e = .returned (.bool true) ∧ Below w.heap.size w w' := by
  go_enter Try.func8, Try.ntmps8
  go_wp2_with fail
  refine (up_any _).mono ?_
  rintro e w' ⟨rfl, n, rfl⟩
  go_wp2_with fail
  refine (sum_empty _ _ _).mono ?_
  rintro e w' ⟨rfl, rfl⟩
  go_wp2_with fail
  go_loop [5] (fun i => i = .int .i64 0) (fun _ => 0)
  case atStart => rfl
  case round =>
    obtain rfl := hrel
    go_wp2_with fail
    go_ret
    exact ⟨rfl, (below_drewN (Below.refl _ _) _).alloc (Nat.le_refl _) _⟩

set_option maxHeartbeats 1000000 in
theorem stays_zero (x : Addr) (cap : Nat) (w : World) :
    Calls Try.prog 8 #[.slice (some x) 0 cap] w fun e w' => e = .returned (.bool true) ∧ Below w.heap.size w w' := by
  go_enter Try.func8, Try.ntmps8
  go_wp2_with fail
  refine (up_any _).mono ?_
  rintro e w' ⟨rfl, n, rfl⟩
  go_wp2_with fail
  refine (sum_empty _ _ _).mono ?_
  rintro e w' ⟨rfl, rfl⟩
  go_wp2_with fail
  go_loop [5] (fun i => i = .int .i64 0) (fun _ => 0)
  case atStart => rfl
  case round =>
    obtain rfl := hrel
    go_wp2_with fail
    go_ret
    exact ⟨rfl, (below_drewN (Below.refl _ _) _).alloc (Nat.le_refl _) _⟩

set_option maxHeartbeats 2000000 in
theorem stays_some (b off len cap : Nat) (zs : List Int) (w : World) (hz : Hid (zs.length = len)) (h : len ≤ 1000) (hpos : 0 < len)
    (hb : Hid (∀ n ∈ zs, -9223372036854775808 ≤ n ∧ n ≤ 9223372036854775807))
    (hc : Hid (∀ j, j < len → w.cell? ⟨b, off + j, none⟩ = some (.int .i64 (zs.getD j 0)))) :
    Calls Try.prog 8 #[.slice (some ⟨b, off, none⟩) len cap] w fun e w' => e = .returned (.bool true) ∧ Below w.heap.size w w' := by
  have c : ¬ (1000 : Int) < (len : Int) := by omega
  have hlt : b < w.heap.size := cell_lt (hc.out 0 hpos)
  obtain ⟨i0, hi, hz0, hz1, hz2⟩ := info_parts info_i64
  go_enter Try.func8, Try.ntmps8
  go_wp2_with fail
  refine (up_any _).mono ?_
  rintro e w' ⟨rfl, n, rfl⟩
  have HL : Hid ((zs.map (Value.int .i64)).length = len * 1) := by rw [List.length_map, hz.out]; show len = len * 1; omega
  go_wp2_with (at_builtin; refine wpList_append_own _ rfl _ _ 35 rfl w.heap.size 2 i0 (.int .i64 0) 1 8 Try.underlying35 hi hz0 hz1 hz2 rfl (by decide) _ 0 [] rfl (World.ownsRow_lit _ #[] 0 (Nat.le_refl _) (by decide) rfl) ⟨b, off, none⟩ len cap (zs.map (Value.int .i64)) rfl HL.out ?c1 ?c2 ?c3 ?c4 ?c5 ?k)
  case c1 =>
    intro j u hj
    have hjl : j < len := by
      have := (List.getElem?_eq_some_iff.1 hj).1
      rw [List.length_map, hz.out] at this
      exact this
    have e1 := hc.out j hjl
    have e2 : zs.getD j 0 = zs[j]'(by rw [hz.out]; exact hjl) := by simp [List.getD, hz.out, hjl]
    rw [List.getElem?_map, List.getElem?_eq_getElem (by rw [hz.out]; exact hjl)] at hj
    simp only [Option.map_some, Option.some.injEq] at hj
    rw [← hj, ← e2]
    rw [Go.WideShapes.add_plain]
    exact old_cell ((below_drewN (Below.refl _ _) n).alloc (Nat.le_refl _) _) e1 hlt
  case c2 => exact ints_oneCell _ _
  case c3 => simp [maxLen]; omega
  case c4 => omega
  case c5 => simp
  case k =>
    intro v' w1 hown' hgrow hnil
    rcases hown'.2 with ⟨rfl, _⟩ | ⟨g, cap', cur, rfl, hbg, _⟩
    · exact (hnil rfl).elim
    · have hbel : Below w.heap.size w w1 := ((below_drewN (Below.refl _ _) n).alloc (Nat.le_refl _) _).grown hgrow (by simp) (by intro k hk; simp only [Value.ownBlock, Option.some.injEq] at hk; exact Nat.le_of_eq hk)
      have hel : Elems w1 (some ⟨g, 0, none⟩) len zs := by
        refine ⟨hz.out, hb.out, Or.inr ⟨g, 0, rfl, fun j hj => ?_⟩⟩
        have := hown'.cellAt j (by omega)
        rw [Nat.zero_add, this, List.getElem?_map, List.getElem?_eq_getElem (by rw [hz.out]; exact hj)]
        simp [List.getD, hz.out, hj]
      have HB := Lib.hid hbel
      have HE := Lib.hid hel
      have C1 : Hid (∀ j, j < len → w1.cell? ⟨g, 0 + j, none⟩ = some (.int .i64 (zs.getD j 0))) := by
        rcases hel.2.2 with h0 | ⟨b', off', he, hcc⟩
        · omega
        · simp only [Option.some.injEq, Addr.mk.injEq] at he
          obtain ⟨rfl, rfl, _⟩ := he
          exact hcc
      have C2 : Hid (∀ j, j < len → w1.cell? ⟨b, off + j, none⟩ = some (.int .i64 (zs.getD j 0))) := fun j hj => old_cell hbel (hc.out j hj) hlt
      clear hown' hgrow hnil hbel hel
      go_wp2_with fail
      refine (sum_any _ _ _ zs _ (by omega) HE.out).mono ?_
      rintro e w' ⟨rfl, rfl⟩
      go_wp2_with fail
      go_loopw [5] (fun i wr => ∃ k : Nat, k ≤ len ∧ i = .int .i64 k ∧ ∃ q, wr = World.drewN w' q) (fun i _ => len - (RowKit.intOf i).toNat)
      case atStart => exact ⟨0, Nat.zero_le _, rfl, 0, rfl⟩
      case round =>
        obtain ⟨k, hk, rfl, q, rfl⟩ := hrel
        by_cases hkl : k < len
        · obtain ⟨x, hx⟩ : ∃ x, zs.getD k 0 = x := ⟨_, rfl⟩
          have c1 := C1.out k hkl
          have c2 := C2.out k hkl
          rw [hx] at c1 c2
          rw [Nat.zero_add] at c1
          have i1 : (0 : Int) ≤ (k : Int) := by omega
          have i2 : (k : Int) < (len : Int) := by omega
          clear hx
          go_wp2_with fail
          go_quiet (fail)
          go_wp2_with fail
          go_roundw
          case rel => exact ⟨k + 1, by omega, by go_num, _, rfl⟩
          case measure => simp [RowKit.intOf]; omega
        · have i2 : ¬ (k : Int) < (len : Int) := by omega
          go_wp2_with fail
          go_ret
          exact ⟨rfl, below_drewN HB.out _⟩

theorem centsStays_walk (a : Option Addr) (len cap : Nat) (zs : List Int) (w : World) (h : IsRow .i64 w a len cap zs) :
    Calls Try.prog 8 #[.slice a len cap] w fun e w' => e = .returned (.bool true) ∧ Below w.heap.size w w' := by
  obtain ⟨⟨e1, e2, e3⟩, e4, e5⟩ := row_elems h
  by_cases hl : 1000 < len
  · exact stays_long a len cap w hl (by simp [maxLen] at e5; omega)
  · rcases e3 with e3 | ⟨b, off, rfl, hc⟩
    · subst e3
      cases a with
      | none => exact stays_nil cap w
      | some x => exact stays_zero x cap w
    · by_cases h0 : len = 0
      · subst h0
        exact stays_zero _ cap w
      · exact stays_some b off len cap _ w (Lib.hid e1) (by omega) (by omega) (Lib.hid e2) (Lib.hid hc)
end Go.Proofs.Ytheplpfhgifkcaa
