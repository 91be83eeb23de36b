/- The walk of CentsOrder: in whatever order and in whatever parts numbers are summed. -/
import Derived.Test.YtheplpfhgifkcaaCentsStays
import Derived.Test.YtheplpfhgifkcaaApp
import Derived.Test.YtheplpfhgifkcaaCentsThree
import Derived.Handy
namespace Go.Proofs.Ytheplpfhgifkcaa
open Go Go.RowKit
set_option linter.unusedVariables false

set_option maxHeartbeats 1000000 in
theorem order_long (a : Option Addr) (len cap : Nat) (at0 : Int) (w : World) (h : 1000 < len ∨ len = 0) (hm : len ≤ 9223372036854775807) :
    Calls Try.prog 7 #[.slice a len cap, .int .i64 at0] w fun e w' => e = .returned (.bool true) ∧ Below w.heap.size w w' := by
  by_cases c : (1000 : Int) < (len : Int)
  · go_enter Try.func7, Try.ntmps7
    go_wp2_with fail
    refine (up_any _).mono ?_
    rintro e w' ⟨rfl, n, rfl⟩
    go_wp2_with fail
    go_ret
    exact ⟨rfl, below_drewN (Below.refl _ _) _⟩
  · obtain rfl : len = 0 := by omega
    go_enter Try.func7, Try.ntmps7
    go_wp2_with fail
    refine (up_any _).mono ?_
    rintro e w' ⟨rfl, n, rfl⟩
    go_wp2_with fail
    go_ret
    exact ⟨rfl, below_drewN (Below.refl _ _) _⟩

theorem Ti64 : SliceT Try.prog 35 2 (.int .i64 0) 8 := ⟨Try.underlying35, info_i64, by decide⟩

theorem getD_map_int (zs : List Int) (j : Nat) (h : j < zs.length) : (zs.map (Value.int .i64)).getD j undef = .int .i64 (zs.getD j 0) := by
  simp [List.getD, h]

theorem elems_cells {w : World} {a : Option Addr} {len : Nat} {zs : List Int} (h : Elems w a len zs) : Cells w a len (zs.map (Value.int .i64)) := by
  obtain ⟨h1, _, h3⟩ := h
  refine ⟨by rw [List.length_map, h1], ?_⟩
  rcases h3 with h3 | ⟨b, off, rfl, hc⟩
  · exact Or.inl h3
  · exact Or.inr ⟨b, off, rfl, fun j hj => by rw [hc j hj, getD_map_int _ _ (by omega)]⟩

theorem cells_elems {w : World} {a : Option Addr} {len : Nat} {zs : List Int} (h : Cells w a len (zs.map (Value.int .i64))) (hb : ∀ n ∈ zs, -9223372036854775808 ≤ n ∧ n ≤ 9223372036854775807) : Elems w a len zs := by
  obtain ⟨h1, h3⟩ := h
  rw [List.length_map] at h1
  refine ⟨h1, hb, ?_⟩
  rcases h3 with h3 | ⟨b, off, rfl, hc⟩
  · exact Or.inl h3
  · exact Or.inr ⟨b, off, rfl, fun j hj => by rw [hc j hj, getD_map_int _ _ (by omega)]⟩

theorem order_form {w : World} {base n m : Nat} {v : Value} {xs : List Value} (h : w.ownsRow base 2 1 v n xs) (hn : n = m) (hm : 0 < m) : ∃ g cp, v = .slice (some ⟨g, 0, none⟩) m cp := by
  subst hn
  obtain ⟨g, cp, hv, _⟩ := h.form hm
  exact ⟨g, cp, hv⟩

theorem order_elems {w : World} {base n m g cp : Nat} {v : Value} {xs ys : List Int} (h : w.ownsRow base 2 1 v n ([] ++ xs.map (Value.int .i64) ++ ys.map (Value.int .i64))) (hv : v = .slice (some ⟨g, 0, none⟩) m cp) (hn : n = m)
    (hb : ∀ n ∈ xs ++ ys, -9223372036854775808 ≤ n ∧ n ≤ 9223372036854775807) : Elems w (some ⟨g, 0, none⟩) m (xs ++ ys) := by
  subst hn hv
  rw [List.nil_append, ← List.map_append] at h
  exact cells_elems (ownsRow_cells h) hb

theorem elems_sub {w : World} {b off len : Nat} {zs : List Int} (hz : zs.length = len) (hb : ∀ n ∈ zs, -9223372036854775808 ≤ n ∧ n ≤ 9223372036854775807)
    (hc : ∀ j, j < len → w.cell? ⟨b, off + j, none⟩ = some (.int .i64 (zs.getD j 0))) {K : Nat} (hK : K ≤ len) :
    Elems w (some ⟨b, off, none⟩) K (zs.take K) ∧ Elems w (some ⟨b, off + K, none⟩) (len - K) (zs.drop K) := by
  constructor
  · refine ⟨by rw [List.length_take]; omega, fun n hn => hb n (List.mem_of_mem_take hn), Or.inr ⟨b, off, rfl, fun j hj => ?_⟩⟩
    rw [hc j (by omega)]
    simp [List.getD, hj]
  · refine ⟨by rw [List.length_drop]; omega, fun n hn => hb n (List.mem_of_mem_drop hn), Or.inr ⟨b, off + K, rfl, fun j hj => ?_⟩⟩
    rw [Nat.add_assoc, hc (K + j) (by omega)]
    simp [List.getD]

set_option maxHeartbeats 4000000 in
theorem order_walk_neg (b off len cap K : Nat) (at0 : Int) (zs : List Int) (w : World) (s kS a kA b' kB : Int) (hz : Hid (zs.length = len)) (h : len ≤ 1000) (hpos : 0 < len) (hcap : len ≤ cap)
    (hb : Hid (∀ n ∈ zs, -9223372036854775808 ≤ n ∧ n ≤ 9223372036854775807))
    (hc : Hid (∀ j, j < len → w.cell? ⟨b, off + j, none⟩ = some (.int .i64 (zs.getD j 0))))
    (hat : -9223372036854775808 ≤ at0 ∧ at0 ≤ 9223372036854775807) (hs : at0 < 0)
    (E : -(at0 + 1).tmod (len : Int) = (K : Int)) (hK : K < len)
    (vS : Hid (ovV (sumI zs) = s ∧ ovE (sumI zs) = kS)) (vA : Hid (ovV (sumI (zs.take K)) = a ∧ ovE (sumI (zs.take K)) = kA)) (vB : Hid (ovV (sumI (zs.drop K)) = b' ∧ ovE (sumI (zs.drop K)) = kB))
    (hkS : kS = 0 ∨ kS = 3) (hkA : kA = 0 ∨ kA = 3) (hkB : kB = 0 ∨ kB = 3)
    (ba : -9223372036854775808 ≤ a ∧ a ≤ 9223372036854775807) (bb : -9223372036854775808 ≤ b' ∧ b' ≤ 9223372036854775807)
    (hadd : Hid (kA = 0 → kB = 0 → ovV (a + b') = s ∧ ovE (a + b') = kS)) :
    Calls Try.prog 7 #[.slice (some ⟨b, off, none⟩) len cap, .int .i64 at0] w fun e w' => e = .returned (.bool true) ∧ Below w.heap.size w w' := by
  have c1 : ¬ (1000 : Int) < (len : Int) := by omega
  have c2 : ((len : Int) == 0) = false := by simp; omega
  have c3 : (1 : Int) ≤ (len : Int) := by omega
  have k1 : K ≤ len := by omega
  have k2 : ¬ cap = K := by omega
  have k3 : K ≤ cap := by omega
  have hlt : b < w.heap.size := cell_lt (hc.out 0 hpos)
  obtain ⟨g1, g2⟩ := elems_sub hz.out hb.out hc.out (K := K) (by omega)
  have g0 : Elems w (some ⟨b, off, none⟩) len zs := ⟨hz.out, hb.out, Or.inr ⟨b, off, rfl, hc.out⟩⟩
  have C0 : Hid (∀ W, Below w.heap.size w W → Elems W (some ⟨b, off, none⟩) len zs) := fun W hW => cells_elems ((elems_cells g0).below hW (fun x hx => by cases hx; exact Or.inr hlt)) hb.out
  have C1 : Hid (∀ W, Below w.heap.size w W → Elems W (some ⟨b, off, none⟩) K (zs.take K)) := fun W hW => cells_elems ((elems_cells g1).below hW (fun x hx => by cases hx; exact Or.inr hlt)) g1.2.1
  have C2 : Hid (∀ W, Below w.heap.size w W → Elems W (some ⟨b, off + K, none⟩) (len - K) (zs.drop K)) := fun W hW => cells_elems ((elems_cells g2).below hW (fun x hx => by cases hx; exact Or.inr hlt)) g2.2.1
  have hsum : Hid (sumI (zs.drop K ++ zs.take K) = sumI zs) := by
    show _ = _
    rw [sumI_append, Int.add_comm, ← sumI_append, List.take_append_drop]
  have hbd : Hid (∀ n ∈ zs.drop K ++ zs.take K, -9223372036854775808 ≤ n ∧ n ≤ 9223372036854775807) := fun n hn => by
    rcases List.mem_append.1 hn with h | h
    · exact g2.2.1 n h
    · exact g1.2.1 n h
  have m1 : 0 + (len - K) ≤ maxLen := by simp [maxLen]; omega
  have m2 : 0 + (len - K) + K ≤ maxLen := by simp [maxLen]; omega
  have OWN0 : Hid (∀ q, ((World.drewN w q).alloc (.cells #[] 2)).ownsRow w.heap.size 2 1 (.slice (some ⟨w.heap.size, 0, none⟩) 0 0) 0 []) := fun q => World.ownsRow_lit (World.drewN w q) #[] 0 (Nat.le_refl _) (by decide) rfl
  have B0 : Hid (∀ q, Below w.heap.size w ((World.drewN w q).alloc (.cells #[] 2))) := fun q => (below_drewN (Below.refl _ _) q).alloc (Nat.le_refl _) _
  have M1 := Lib.hid m1
  have M2 := Lib.hid m2
  clear g0 g1 g2 m1 m2
  rcases hkS with rfl | rfl
  all_goals
    go_enter Try.func7, Try.ntmps7
    go_wp2_with fail
    refine (up_any _).mono ?_
    rintro e w' ⟨rfl, n, rfl⟩
    go_wp2_with fail
    refine (sum_any _ _ _ zs _ (by omega) (C0.out _ (below_drewN (Below.refl _ _) _))).mono ?_
    rintro e w' ⟨rfl, rfl⟩
    rw [vS.out.1, vS.out.2]
    first | rw [errv_0] | rw [errv_3]
    go_wp2_with fail
    go_region_law (first
      | (refine step_append_cells rfl (.tmp 41) (.tmp 44) 35 rfl w.heap.size Ti64 (.slice (some ⟨w.heap.size, 0, none⟩) 0 0) 0 [] (by simp [Act.eval]) (OWN0.out _) (some ⟨b, off + K, none⟩) (len - K) (cap - K) ((zs.drop K).map (Value.int .i64)) (by simp [Act.eval]) (fun h => by cases h) (elems_cells (C2.out _ (B0.out _))) (ints_oneCell _ _) M1.out (by omega) (by simp) ?_
         intro v1 w1 o1 q1 r1 l1
         have B1 : Hid (Below w.heap.size w w1) := (B0.out _).grown q1 (by simp) (by intro k hk; simp only [Value.ownBlock, Option.some.injEq] at hk; exact Nat.le_of_eq hk)
         have O1 := Lib.hid o1
         have R1 := Lib.hid r1
         clear o1 q1 r1 l1)
      | (refine step_append_cells rfl (.tmp 45) (.tmp 48) 35 rfl w.heap.size Ti64 v1 _ _ (by simp [Act.eval]) O1.out (some ⟨b, off, none⟩) K cap ((zs.take K).map (Value.int .i64)) (by simp [Act.eval]) (fun h => by cases h) (elems_cells (C1.out _ B1.out)) (ints_oneCell _ _) M2.out (by omega) B1.out.size ?_
         intro v2 w2 o2 q2 r2 l2
         obtain ⟨g2, cp2, E2⟩ : ∃ g2 cp2, v2 = .slice (some ⟨g2, 0, none⟩) len cp2 := order_form o2 (by omega) hpos
         have B2 : Hid (Below w.heap.size w w2) := B1.out.grown q2 B1.out.size (fun k hk => (O1.out.lt k hk).1)
         have EL : Hid (Elems w2 (some ⟨g2, 0, none⟩) len (zs.drop K ++ zs.take K)) := order_elems o2 E2 (by omega) hbd.out
         subst E2
         clear o2 q2 r2 l2)
      | (go_simp; go_at_call 21; refine (sum_any _ _ _ (zs.drop K ++ zs.take K) _ (by omega) EL.out).mono ?_; rintro e w' ⟨rfl, rfl⟩; rw [hsum.out, vS.out.1, vS.out.2]; first | rw [errv_0] | rw [errv_3]))
    go_wp2_with fail
    go_quiet (fail)
    go_wp2_with fail
    refine (sum_any _ _ _ (zs.take K) _ (by omega) (C1.out _ (below_drewN B2.out _))).mono ?_
    rintro e w' ⟨rfl, rfl⟩
    rw [vA.out.1, vA.out.2]
    go_wp2_with fail
    refine (sum_any _ _ _ (zs.drop K) _ (by omega) (C2.out _ (below_drewN B2.out _))).mono ?_
    rintro e w' ⟨rfl, rfl⟩
    rw [vB.out.1, vB.out.2]
    rcases hkA with hA | hA
    · rcases hkB with hB | hB
      · have hadd' := Lib.hid (hadd.out hA hB)
        rw [hA, hB, errv_0]
        clear hA hB hadd
        go_wp2_with fail
        refine (add_is a b' _ _ ba bb hadd'.out.1 hadd'.out.2 _).mono ?_
        rintro e w' ⟨rfl, rfl⟩
        first | rw [errv_0] | rw [errv_3]
        go_wp2_with fail
        go_quiet (fail)
        go_wp2_with fail
        go_ret
        exact ⟨by simp, below_drewN (below_drewN B2.out _) _⟩
      · rw [hA, hB, errv_0, errv_3]
        clear hA hB
        go_wp2_with fail
        go_ret
        exact ⟨by simp, below_drewN B2.out _⟩
    · rw [hA, errv_3]
      clear hA
      go_wp2_with fail
      go_ret
      exact ⟨by simp, below_drewN B2.out _⟩

set_option maxHeartbeats 4000000 in
theorem order_walk_pos (b off len cap K : Nat) (at0 : Int) (zs : List Int) (w : World) (s kS a kA b' kB : Int) (hz : Hid (zs.length = len)) (h : len ≤ 1000) (hpos : 0 < len) (hcap : len ≤ cap)
    (hb : Hid (∀ n ∈ zs, -9223372036854775808 ≤ n ∧ n ≤ 9223372036854775807))
    (hc : Hid (∀ j, j < len → w.cell? ⟨b, off + j, none⟩ = some (.int .i64 (zs.getD j 0))))
    (hat : -9223372036854775808 ≤ at0 ∧ at0 ≤ 9223372036854775807) (hs : 0 ≤ at0)
    (E : at0 % (len : Int) = (K : Int)) (hK : K < len)
    (vS : Hid (ovV (sumI zs) = s ∧ ovE (sumI zs) = kS)) (vA : Hid (ovV (sumI (zs.take K)) = a ∧ ovE (sumI (zs.take K)) = kA)) (vB : Hid (ovV (sumI (zs.drop K)) = b' ∧ ovE (sumI (zs.drop K)) = kB))
    (hkS : kS = 0 ∨ kS = 3) (hkA : kA = 0 ∨ kA = 3) (hkB : kB = 0 ∨ kB = 3)
    (ba : -9223372036854775808 ≤ a ∧ a ≤ 9223372036854775807) (bb : -9223372036854775808 ≤ b' ∧ b' ≤ 9223372036854775807)
    (hadd : Hid (kA = 0 → kB = 0 → ovV (a + b') = s ∧ ovE (a + b') = kS)) :
    Calls Try.prog 7 #[.slice (some ⟨b, off, none⟩) len cap, .int .i64 at0] w fun e w' => e = .returned (.bool true) ∧ Below w.heap.size w w' := by
  have c1 : ¬ (1000 : Int) < (len : Int) := by omega
  have c2 : ((len : Int) == 0) = false := by simp; omega
  have c3 : (1 : Int) ≤ (len : Int) := by omega
  have k1 : K ≤ len := by omega
  have k2 : ¬ cap = K := by omega
  have k3 : K ≤ cap := by omega
  have hlt : b < w.heap.size := cell_lt (hc.out 0 hpos)
  obtain ⟨g1, g2⟩ := elems_sub hz.out hb.out hc.out (K := K) (by omega)
  have g0 : Elems w (some ⟨b, off, none⟩) len zs := ⟨hz.out, hb.out, Or.inr ⟨b, off, rfl, hc.out⟩⟩
  have C0 : Hid (∀ W, Below w.heap.size w W → Elems W (some ⟨b, off, none⟩) len zs) := fun W hW => cells_elems ((elems_cells g0).below hW (fun x hx => by cases hx; exact Or.inr hlt)) hb.out
  have C1 : Hid (∀ W, Below w.heap.size w W → Elems W (some ⟨b, off, none⟩) K (zs.take K)) := fun W hW => cells_elems ((elems_cells g1).below hW (fun x hx => by cases hx; exact Or.inr hlt)) g1.2.1
  have C2 : Hid (∀ W, Below w.heap.size w W → Elems W (some ⟨b, off + K, none⟩) (len - K) (zs.drop K)) := fun W hW => cells_elems ((elems_cells g2).below hW (fun x hx => by cases hx; exact Or.inr hlt)) g2.2.1
  have hsum : Hid (sumI (zs.drop K ++ zs.take K) = sumI zs) := by
    show _ = _
    rw [sumI_append, Int.add_comm, ← sumI_append, List.take_append_drop]
  have hbd : Hid (∀ n ∈ zs.drop K ++ zs.take K, -9223372036854775808 ≤ n ∧ n ≤ 9223372036854775807) := fun n hn => by
    rcases List.mem_append.1 hn with h | h
    · exact g2.2.1 n h
    · exact g1.2.1 n h
  have m1 : 0 + (len - K) ≤ maxLen := by simp [maxLen]; omega
  have m2 : 0 + (len - K) + K ≤ maxLen := by simp [maxLen]; omega
  have OWN0 : Hid (∀ q, ((World.drewN w q).alloc (.cells #[] 2)).ownsRow w.heap.size 2 1 (.slice (some ⟨w.heap.size, 0, none⟩) 0 0) 0 []) := fun q => World.ownsRow_lit (World.drewN w q) #[] 0 (Nat.le_refl _) (by decide) rfl
  have B0 : Hid (∀ q, Below w.heap.size w ((World.drewN w q).alloc (.cells #[] 2))) := fun q => (below_drewN (Below.refl _ _) q).alloc (Nat.le_refl _) _
  have M1 := Lib.hid m1
  have M2 := Lib.hid m2
  clear g0 g1 g2 m1 m2
  rcases hkS with rfl | rfl
  all_goals
    go_enter Try.func7, Try.ntmps7
    go_wp2_with fail
    refine (up_any _).mono ?_
    rintro e w' ⟨rfl, n, rfl⟩
    go_wp2_with fail
    refine (sum_any _ _ _ zs _ (by omega) (C0.out _ (below_drewN (Below.refl _ _) _))).mono ?_
    rintro e w' ⟨rfl, rfl⟩
    rw [vS.out.1, vS.out.2]
    first | rw [errv_0] | rw [errv_3]
    go_wp2_with fail
    go_region_law (first
      | (refine step_append_cells rfl (.tmp 41) (.tmp 44) 35 rfl w.heap.size Ti64 (.slice (some ⟨w.heap.size, 0, none⟩) 0 0) 0 [] (by simp [Act.eval]) (OWN0.out _) (some ⟨b, off + K, none⟩) (len - K) (cap - K) ((zs.drop K).map (Value.int .i64)) (by simp [Act.eval]) (fun h => by cases h) (elems_cells (C2.out _ (B0.out _))) (ints_oneCell _ _) M1.out (by omega) (by simp) ?_
         intro v1 w1 o1 q1 r1 l1
         have B1 : Hid (Below w.heap.size w w1) := (B0.out _).grown q1 (by simp) (by intro k hk; simp only [Value.ownBlock, Option.some.injEq] at hk; exact Nat.le_of_eq hk)
         have O1 := Lib.hid o1
         have R1 := Lib.hid r1
         clear o1 q1 r1 l1)
      | (refine step_append_cells rfl (.tmp 45) (.tmp 48) 35 rfl w.heap.size Ti64 v1 _ _ (by simp [Act.eval]) O1.out (some ⟨b, off, none⟩) K cap ((zs.take K).map (Value.int .i64)) (by simp [Act.eval]) (fun h => by cases h) (elems_cells (C1.out _ B1.out)) (ints_oneCell _ _) M2.out (by omega) B1.out.size ?_
         intro v2 w2 o2 q2 r2 l2
         obtain ⟨g2, cp2, E2⟩ : ∃ g2 cp2, v2 = .slice (some ⟨g2, 0, none⟩) len cp2 := order_form o2 (by omega) hpos
         have B2 : Hid (Below w.heap.size w w2) := B1.out.grown q2 B1.out.size (fun k hk => (O1.out.lt k hk).1)
         have EL : Hid (Elems w2 (some ⟨g2, 0, none⟩) len (zs.drop K ++ zs.take K)) := order_elems o2 E2 (by omega) hbd.out
         subst E2
         clear o2 q2 r2 l2)
      | (go_simp; go_at_call 21; refine (sum_any _ _ _ (zs.drop K ++ zs.take K) _ (by omega) EL.out).mono ?_; rintro e w' ⟨rfl, rfl⟩; rw [hsum.out, vS.out.1, vS.out.2]; first | rw [errv_0] | rw [errv_3]))
    go_wp2_with fail
    go_quiet (fail)
    go_wp2_with fail
    refine (sum_any _ _ _ (zs.take K) _ (by omega) (C1.out _ (below_drewN B2.out _))).mono ?_
    rintro e w' ⟨rfl, rfl⟩
    rw [vA.out.1, vA.out.2]
    go_wp2_with fail
    refine (sum_any _ _ _ (zs.drop K) _ (by omega) (C2.out _ (below_drewN B2.out _))).mono ?_
    rintro e w' ⟨rfl, rfl⟩
    rw [vB.out.1, vB.out.2]
    rcases hkA with hA | hA
    · rcases hkB with hB | hB
      · have hadd' := Lib.hid (hadd.out hA hB)
        rw [hA, hB, errv_0]
        clear hA hB hadd
        go_wp2_with fail
        refine (add_is a b' _ _ ba bb hadd'.out.1 hadd'.out.2 _).mono ?_
        rintro e w' ⟨rfl, rfl⟩
        first | rw [errv_0] | rw [errv_3]
        go_wp2_with fail
        go_quiet (fail)
        go_wp2_with fail
        go_ret
        exact ⟨by simp, below_drewN (below_drewN B2.out _) _⟩
      · rw [hA, hB, errv_0, errv_3]
        clear hA hB
        go_wp2_with fail
        go_ret
        exact ⟨by simp, below_drewN B2.out _⟩
    · rw [hA, errv_3]
      clear hA
      go_wp2_with fail
      go_ret
      exact ⟨by simp, below_drewN B2.out _⟩

theorem centsOrder_walk (a : Option Addr) (len cap : Nat) (zs0 : List Int) (at0 : Int) (w : World) (h : IsRow .i64 w a len cap zs0) (hat : -9223372036854775808 ≤ at0 ∧ at0 ≤ 9223372036854775807) :
    Calls Try.prog 7 #[.slice a len cap, .int .i64 at0] w fun e w' => e = .returned (.bool true) ∧ Below w.heap.size w w' := by
  obtain ⟨⟨e1, e2, e3⟩, e4, e5⟩ := row_elems h
  have e5' : cap ≤ 9223372036854775807 := by simp [maxLen] at e5; omega
  by_cases hl : 1000 < len ∨ len = 0
  · exact order_long a len cap at0 w hl (by omega)
  · rcases e3 with e3 | ⟨b, off, rfl, hc⟩
    · omega
    · generalize zs0.take len = zs at *
      have hlen : (0 : Int) < (len : Int) := by omega
      have mk : ∀ K : Nat, K < len → ((at0 < 0 → -(at0 + 1).tmod (len : Int) = (K : Int)) ∧ (0 ≤ at0 → at0 % (len : Int) = (K : Int))) →
          Calls Try.prog 7 #[.slice (some ⟨b, off, none⟩) len cap, .int .i64 at0] w fun e w' => e = .returned (.bool true) ∧ Below w.heap.size w w' := by
        intro K hK hE
        have hin : ∀ n, -9223372036854775808 ≤ ovV n ∧ ovV n ≤ 9223372036854775807 := fun n => by unfold ovV; split <;> omega
        have hadd : Hid (ovE (sumI (zs.take K)) = 0 → ovE (sumI (zs.drop K)) = 0 → ovV (ovV (sumI (zs.take K)) + ovV (sumI (zs.drop K))) = ovV (sumI zs) ∧ ovE (ovV (sumI (zs.take K)) + ovV (sumI (zs.drop K))) = ovE (sumI zs)) := by
          intro ha hb
          have hv : ∀ n, ovE n = 0 → ovV n = n := fun n => by unfold ovE ovV; split <;> simp
          rw [hv _ ha, hv _ hb, ← sumI_append, List.take_append_drop]
          exact ⟨rfl, rfl⟩
        by_cases hs : at0 < 0
        · exact order_walk_neg b off len cap K at0 zs w _ _ _ _ _ _ (Lib.hid e1) (by omega) (by omega) e4 (Lib.hid e2) (Lib.hid hc) hat hs (hE.1 hs) hK (Lib.hid ⟨rfl, rfl⟩) (Lib.hid ⟨rfl, rfl⟩) (Lib.hid ⟨rfl, rfl⟩)
            (ovE_values _) (ovE_values _) (ovE_values _) (hin _) (hin _) hadd
        · exact order_walk_pos b off len cap K at0 zs w _ _ _ _ _ _ (Lib.hid e1) (by omega) (by omega) e4 (Lib.hid e2) (Lib.hid hc) hat (by omega) (hE.2 (by omega)) hK (Lib.hid ⟨rfl, rfl⟩) (Lib.hid ⟨rfl, rfl⟩) (Lib.hid ⟨rfl, rfl⟩)
            (ovE_values _) (ovE_values _) (ovE_values _) (hin _) (hin _) hadd
      by_cases hs : at0 < 0
      · have h1 := Int.emod_nonneg (-(at0 + 1)) (show (len : Int) ≠ 0 by omega)
        have h2 := Int.emod_lt_of_pos (-(at0 + 1)) hlen
        have h3 : -(at0 + 1).tmod (len : Int) = -(at0 + 1) % (len : Int) := by rw [← Int.neg_tmod, Int.tmod_eq_emod_of_nonneg (by omega)]
        refine mk (-(at0 + 1) % (len : Int)).toNat (by omega) ⟨fun _ => by rw [h3]; omega, fun h => by omega⟩
      · have h1 := Int.emod_nonneg at0 (show (len : Int) ≠ 0 by omega)
        have h2 := Int.emod_lt_of_pos at0 hlen
        refine mk (at0 % (len : Int)).toNat (by omega) ⟨fun h => by omega, fun _ => by omega⟩
end Go.Proofs.Ytheplpfhgifkcaa
