/- split's greatestFirst: the places of rests, from the greatest to the least. -/
import Derived.Test.YtkmoibikempieaaSortS
import Derived.Test.YtkmoibikempieaaRests
import Derived.Test.YtkmoibikempieaaSplitC
import Derived.Test.YtkmoibikempieaaSplitRows
namespace Go.Proofs.Ytkmoibikempieaa
open Go Go.RowKit Go.Sort Go.Lib
open Go.RowKit (Below)
set_option linter.unusedVariables false

/-- a row of numbers told by a function -/
def rowF (v : Int → Value) (f : Nat → Int) (n : Nat) : List Value := (List.range n).map fun i => v (f i)

theorem rowF_set (v : Int → Value) (f : Nat → Int) (n b : Nat) (x : Int) : (rowF v f n).set b (v x) = rowF v (fun i => if i = b then x else f i) n := by
  apply List.ext_getElem
  · simp [rowF]
  · intro i h1 h2
    simp only [rowF, List.getElem_set, List.getElem_map, List.getElem_range]
    by_cases e : b = i
    · subst e; simp
    · simp [e, Ne.symm e]

theorem rowF_congr {v : Int → Value} {f g : Nat → Int} {n : Nat} (h : ∀ i, i < n → f i = g i) : rowF v f n = rowF v g n :=
  List.map_congr_left fun i hi => by rw [h i (List.mem_range.1 hi)]

theorem rowF_cell {w : World} {B E : Nat} {b cap n : Nat} {v : Int → Value} {f : Nat → Int} (h : w.ownsRow B E 1 (.slice (some ⟨b, 0, none⟩) n cap) n (rowF v f n)) {j : Nat} (hj : j < n) : w.cell? ⟨b, j, none⟩ = some (v (f j)) := by
  have := h.cellAt j (by omega)
  rw [this]
  simp [rowF, hj]

theorem made_row (v : Int → Value) (n : Nat) (h : (v 0).cells = #[v 0]) : (madeCells (v 0).cells (n * 1)).toList = rowF v (fun _ => 0) n := by
  rw [h]
  apply List.ext_getElem
  · simp [madeCells, rowF]
  · intro i h1 h2
    simp [madeCells, rowF, Nat.mod_one]

theorem info_int : (Try.prog.info? 3).map (fun i => (i.zero, i.size, i.bytes)) = some (some (.int .i64 0), 1, 8) := by kernel_rfl

/-- the places as they are at first -/
def idA (N : Nat) : Array (Fin (N + 1)) := Array.ofFn fun i => i
theorem idA_size (N : Nat) : (idA N).size = N + 1 := by simp [idA]
theorem idA_get (N i : Nat) (h : i < N + 1) : ((idA N)[i]!).val = i := by
  rw [getElem!_pos (idA N) i (by rw [idA_size]; exact h)]
  simp [idA]

/-- what greatestFirst tells -/
def GreatTo {N : Nat} (r : Nat → Int) (w : World) (e : Ending) (w' : World) : Prop :=
  ∃ (g : Nat) (d : Array (Fin (N + 1))), e = .returned (.slice (some ⟨g, 0, none⟩) (N + 1) (N + 1)) ∧ w.heap.size ≤ g ∧ Below w.heap.size w w' ∧ (∀ j, j < N + 1 → w'.cell? ⟨g, j, none⟩ = some (.int .i64 ((d[j]!).val : Int))) ∧ Mgd (ttR r) 0 (N + 1) (idA N) d

theorem sw_below {N : Nat} {w0 W : World} {blk off B : Nat} {dk : Array (Fin (N + 1))} (S : SW encP w0 blk off dk W) (hB : B ≤ blk) (hB2 : B ≤ w0.heap.size) : Below B w0 W := by
  have hle := S.le
  obtain ⟨n, os, rfl⟩ := S
  refine ⟨rfl, rfl, rfl, hle, fun k hk => ?_⟩
  unfold sortWorld
  rw [heap_grow_old _ _ (by rw [size_putRow]; show k < w0.heap.size; omega)]
  unfold putRow mapBlock
  show (w0.heap.modify blk _)[k]? = _
  rw [Array.getElem?_modify, if_neg (by omega)]

set_option maxRecDepth 100000 in
set_option maxHeartbeats 4000000 in
theorem greatest_walk {N : Nat} (r : Nat → Int) (rb ro cap L : Nat) (w : World) (HL : Hid (L = N + 1)) (hL0 : L ≤ 1000) (h1 : Hid (∀ i, i < L → w.cell? ⟨rb, ro + i, none⟩ = some (.int .u64 (r i)))) :
    Calls Try.prog 23 #[.slice (some ⟨rb, ro, none⟩) L cap] w (GreatTo (N := N) r w) := by
  obtain ⟨i0, hi0, hz0, hz1, hz2⟩ := info_parts info_int
  have hmx : L ≤ maxLen := by simp [maxLen]; omega
  have hrb : rb < w.heap.size := cell_lt (h1.out 0 (by have := HL.out; omega))
  go_enter Try.func23, Try.ntmps23
  go_wp2_with (at_make; refine wpList_make_full _ rfl _ _ 48 rfl (w.heap.size + 1) 3 i0 (.int .i64 0) 1 Try.underlying48 hi0 hz0 hz1 .i64 .i64 _ _ L rfl rfl rfl rfl (by rw [hz2]; omega) hmx (by simp) ?_; intro w3 o3 q3; rw [made_row (Value.int .i64) L rfl] at o3)
  have B0 : Below w.heap.size w w3 := ((Below.refl _ _).alloc (Nat.le_refl _) _).grown q3 (by simp) (fun k h => by cases h)
  have B1 : Below (w.heap.size + 1) (w.alloc (Obj.cells #[Value.slice (some ⟨rb, ro, none⟩) L cap] 34)) w3 := (Below.refl _ _).grown q3 (by simp) (fun k h => by cases h)
  have c0 : w3.cell? ⟨w.heap.size, 0, none⟩ = some (.slice (some ⟨rb, ro, none⟩) L cap) := by rw [B1.cell (by simp)]; simp
  rw [show (w.alloc (Obj.cells #[Value.slice (some ⟨rb, ro, none⟩) L cap] 34)).heap.size = w.heap.size + 1 by simp] at o3
  obtain ⟨bx, hbx⟩ : ∃ q, w.heap.size = q := ⟨_, rfl⟩
  have HBX : Hid (w.heap.size = bx) := hbx
  rw [hbx] at o3 B0 B1 c0 hrb
  rw [hbx]
  obtain ⟨g, hg⟩ : ∃ q, bx + 1 = q := ⟨_, rfl⟩
  have HGB : Hid (bx + 1 = g) := hg
  rw [hg] at o3 B1
  rw [hg]
  have HO : Hid _ := o3
  have HB0 : Hid _ := B0
  have HC0 : Hid _ := c0
  clear o3 q3 B0 B1 c0 hbx hg
  go_wp2_with fail
  go_loopw [10] (fun i wr => ∃ k : Nat, k ≤ L ∧ i = .int .i64 k ∧ Hid (wr.ownsRow g 3 1 (.slice (some ⟨g, 0, none⟩) L L) L (rowF (Value.int .i64) (fun j => if j < k then (j : Int) else 0) L)) ∧ Hid (Below g w3 wr)) (fun i _ => L - (RowKit.intOf i).toNat)
  case atStart => exact ⟨0, Nat.zero_le _, rfl, by rw [rowF_congr (g := fun _ => 0) (fun i _ => by simp)]; exact HO.out, Below.refl _ _⟩
  case round =>
    obtain ⟨k, hk, rfl, hO, hB⟩ := hrel
    by_cases hkl : k < L
    · have i1 : (0 : Int) ≤ (k : Int) := by omega
      have i2 : (k : Int) < (L : Int) := by omega
      have c1 := rowF_cell hO.out hkl
      have f1 := hO.out.frozenAt k
      have O1 : Hid ((wr.setCell ⟨g, k, none⟩ (.int .i64 (k : Int))).ownsRow g 3 1 (.slice (some ⟨g, 0, none⟩) L L) L (rowF (Value.int .i64) (fun j => if j < k + 1 then (j : Int) else 0) L)) := by
        have h := (hO.out.stored k (.int .i64 (k : Int))).1
        rw [rowF_set] at h
        rw [rowF_congr (g := fun i => if i = k then (k : Int) else if i < k then (i : Int) else 0) (fun i _ => by
          by_cases e : i = k
          · subst e; rw [if_pos (by omega), if_pos rfl]
          · rw [if_neg e]
            by_cases e2 : i < k
            · rw [if_pos (by omega), if_pos e2]
            · rw [if_neg (by omega), if_neg e2])]
        exact h
      have B1 : Hid (Below g w3 (wr.setCell ⟨g, k, none⟩ (.int .i64 (k : Int)))) := hB.out.setCell (Nat.le_refl _) _
      go_wp2_with fail
      go_roundw
      case rel => exact ⟨k + 1, by omega, by go_num, O1, B1⟩
      case measure => simp [RowKit.intOf]; omega
    · have i2 : ¬ (k : Int) < (L : Int) := by omega
      obtain rfl : k = L := by omega
      have hgb := HGB.out
      have hlt := (hO.out.lt g rfl)
      have hg2 : g < wr.heap.size := by
        have := cell_lt (rowF_cell hO.out (j := 0) (by have := HL.out; omega))
        exact this
      have e0 : k = N + 1 := HL.out
      have hbg : bx < w3.heap.size := cell_lt HC0.out
      have hcell : ∀ (b j : Nat) (v : Value), b < g → w3.cell? ⟨b, j, none⟩ = some v → wr.cell? ⟨b, j, none⟩ = some v := fun b j v hb h => old_cell hB.out h hb
      have R : Row1 encP wr g 0 (idA N) := ⟨fun _ => rfl, fun j hj => by
        rw [idA_size] at hj
        refine ⟨?_, by exact hO.out.frozenAt _⟩
        have := rowF_cell hO.out (j := j) (by omega)
        rw [if_pos (by omega)] at this
        rw [Nat.zero_add, this]
        unfold encP
        rw [idA_get N j hj], hg2⟩
      have C : Hid (CmpC N (.pointer (some ⟨bx, 0, none⟩)) (cfR r) g 0 (idA N).size wr) := by
        refine cmpC_rests r bx rb ro cap g 0 _ wr hg2 (by omega) (by omega) (by omega) (by omega) ?_ fun i hi => ?_
        · rw [← e0]; exact hcell _ _ _ (by omega) HC0.out
        · refine hcell _ _ _ (by omega) ?_
          exact old_cell HB0.out (h1.out i (by omega)) hrb
      have hc := sortStable_walk (tot_rests r) g 0 k k (.pointer (some ⟨bx, 0, none⟩)) (idA N) wr R (by rw [idA_size]; exact e0) C (fun i hi => idA_get N i (by omega)) hL0
      have HC : Aside _ := hc
      have HR : Hid _ := R
      clear hc R hcell e0 hgb hlt hg2 hbg hkl i2
      go_wp2_with (go_at_call 33; refine Calls.mono HC.out ?_; rintro e w2 ⟨rfl, d2, S2, H2⟩)
      go_ret
      have e0 : k = N + 1 := HL.out
      have e1 := psize H2.1
      have e2 := HBX.out
      have e3 := HGB.out
      rw [e0] at H2
      refine ⟨g, d2, by rw [e0]; rfl, by omega, ?_, fun j hj => ?_, H2⟩
      · have hb1 := HB0.out
        have hb2 := hB.out.mono (show bx ≤ g by omega)
        have hb3 := sw_below (B := bx) S2 (by omega) (by have := HR.out.hblk; omega)
        rw [e2]
        exact (hb1.trans hb2).trans hb3
      · have := S2.c1 HR.out e1 j (by rw [e1, idA_size]; exact hj)
        rw [Nat.zero_add] at this
        exact this
end Go.Proofs.Ytkmoibikempieaa
