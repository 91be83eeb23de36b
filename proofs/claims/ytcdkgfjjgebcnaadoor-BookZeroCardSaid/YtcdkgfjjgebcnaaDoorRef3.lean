/- The contract of the long numbers' sum (trivetref01.Add), of Neg and To. -/
import Derived.Test.YtcdkgfjjgebcnaaDoorRef2
import Derived.Deep.RegionHeld3
import Derived.KernelRfl
namespace Go.Proofs.YtcdkgfjjgebcnaaDoor
open Go Go.RowKit
set_option linter.unusedVariables false

/-- a number of at most 60 digits -/
def Small (n : Int) : Prop := n.natAbs < 65536 ^ 60

/-- has a number room in 64 bits? -/
def inR (n : Int) : Bool := decide (-9223372036854775808 ≤ n) && decide (n ≤ 9223372036854775807)

def ToTo (w : World) (n : Int) (e : Ending) (w' : World) : Prop :=
  ∃ x : Int, e = .returned (.tuple #[.int .i64 x, .bool (inR n)]) ∧ (inR n = true → x = n) ∧ Below w.heap.size w w'

theorem to_step {ds : List Nat} {u k d : Nat} (hd : ds.getD k 0 = d) (h : u * 65536 ^ (k + 1) + val (ds.take (k + 1)) = val ds) (hb : val ds < 18446744073709551616) :
    (u * 65536 + d) * 65536 ^ k + val (ds.take k) = val ds ∧ u * 65536 + d ≤ 18446744073709551615 ∧ u ≤ 281474976710655 := by
  rw [val_take, hd, Nat.pow_succ] at h
  have h1 : 1 ≤ 65536 ^ k := Nat.pow_pos (by omega)
  generalize 65536 ^ k = P at *
  have e : (u * 65536 + d) * P + val (ds.take k) = val ds := by
    rw [Nat.add_mul, Nat.mul_assoc, Nat.mul_comm 65536 P]
    omega
  have h2 : (u * 65536 + d) * 1 ≤ (u * 65536 + d) * P := Nat.mul_le_mul_left _ h1
  omega

set_option maxHeartbeats 2000000 in
theorem to_any (v : Value) (n : Int) (w : World) (h : NumAt w v n) (hs : Small n) :
    Calls Tryd.prog 32 #[v] w (ToTo w n) := by
  obtain ⟨a, len, cap, ds, rfl, hc, hnil, hcap, hcan, hval⟩ := h
  have hl : ds.length = len := by have := hc.1; rwa [List.length_map] at this
  have hlen : len ≤ 60 := by rw [← hl]; exact canon_len hcan (by rw [hval]; exact hs)
  by_cases hbig : 4 < len
  · have hn : 18446744073709551616 ≤ n.natAbs := by
      have h1 := canon_ge hcan (by omega)
      have h2 : 65536 ^ 4 ≤ 65536 ^ (ds.length - 1) := Nat.pow_le_pow_right (by omega) (by omega)
      have e : (65536 : Nat) ^ 4 = 18446744073709551616 := by decide
      rw [e] at h2
      omega
    have fin : inR n = false := by simp [inR]; omega
    have FIN := Lib.hid fin
    have c1 : (4 : Int) < (len : Int) := by omega
    clear fin hn
    go_enter Tryd.func32, Tryd.ntmps32
    go_wp2_with fail
    go_ret2
    exact ⟨0, by rw [FIN.out]; rfl, (fun h => by rw [FIN.out] at h; cases h), by go_grown⟩
  · have hv4 : val ds < 18446744073709551616 := by
      have h1 := val_lt ds hcan.1
      have h2 : 65536 ^ ds.length ≤ 65536 ^ 4 := Nat.pow_le_pow_right (by omega) (by omega)
      have e : (65536 : Nat) ^ 4 = 18446744073709551616 := by decide
      rw [e] at h2
      omega
    have c1 : ¬ (4 : Int) < (len : Int) := by omega
    obtain ⟨m, hm⟩ : ∃ m, decide (n < 0) = m := ⟨_, rfl⟩
    rw [hm]
    have HM := Lib.hid hm
    have HL := Lib.hid hl
    have HV := Lib.hid hval
    have HV4 := Lib.hid hv4
    have CA : Hid (∀ W, Below w.heap.size w W → ∀ i, i < len → ∃ b off, a = some ⟨b, off, none⟩ ∧ W.cell? ⟨b, off + i, none⟩ = some (.int .u64 (ds.getD i 0 : Nat))) := fun W hW i hi => (hc.up hW).digit hi
    clear hm hl hc hs hval hv4
    go_enter Tryd.func32, Tryd.ntmps32
    go_wp2_with fail
    go_loop [4, 5] (fun x i => ∃ k u : Nat, k ≤ len ∧ i = .int .i64 ((k : Int) - 1) ∧ x = .int .u64 u ∧ u * 65536 ^ k + val (ds.take k) = val ds) (fun _ i => (RowKit.intOf i + 1).toNat)
    case atStart => exact ⟨len, 0, Nat.le_refl _, rfl, rfl, by rw [List.take_of_length_le (by rw [HL.out]; exact Nat.le_refl _)]; omega⟩
    case round =>
      obtain ⟨k, u, hk, rfl, rfl, hu⟩ := hrel
      by_cases h0 : k = 0
      · subst h0
        have hu' : u = n.natAbs := by
          rw [← HV.out, ← hu]; simp [val]
        have hub : u < 18446744073709551616 := by rw [hu']; rw [← HV.out]; exact HV4.out
        have hm' := HM.out
        cases m with
        | false =>
          have hn : n = (u : Int) := by
            have : ¬ n < 0 := of_decide_eq_false hm'
            omega
          have fin : inR n = decide ((u : Int) < 9223372036854775808) := by
            rw [hn]
            by_cases h : (u : Int) < 9223372036854775808
            · simp [inR] <;> omega
            · simp [inR] <;> omega
          have fin2 : inR n = true → wrap64 (u : Int) = n := by
            intro h; simp [inR] at h; unfold wrap64; omega
          have FIN := Lib.hid fin
          have FIN2 := Lib.hid fin2
          clear fin fin2 hu hu' hn hm'
          go_wp2_with fail
          go_ret2
          exact ⟨wrap64 (u : Int), by rw [FIN.out]; simp, FIN2.out, by go_grown⟩
        | true =>
          have hn : n = -(u : Int) := by
            have : n < 0 := of_decide_eq_true hm'
            omega
          have hpos : n < 0 := of_decide_eq_true hm'
          obtain ⟨z, hz⟩ : ∃ z, IntKind.u64.wrap (bits .xor .u64 IntKind.u64.max (u : Int) + 1) = z := ⟨_, rfl⟩
          have hz2 : z = 18446744073709551616 - (u : Int) := by
            rw [← hz, not_u64 u hub, wrapU']; omega
          have fin : inR n = decide ((u : Int) ≤ 9223372036854775808) := by
            rw [hn]
            by_cases h : (u : Int) ≤ 9223372036854775808
            · simp [inR] <;> omega
            · simp [inR] <;> omega
          have fin2 : inR n = true → wrap64 z = n := by
            intro h; simp [inR] at h; unfold wrap64; omega
          have FIN := Lib.hid fin
          have FIN2 := Lib.hid fin2
          clear fin fin2 hu hu' hn hm' hz2 hpos
          go_wp2_with fail
          go_ret2
          exact ⟨wrap64 z, by rw [FIN.out]; simp, FIN2.out, by go_grown⟩
      · obtain ⟨j, rfl⟩ : ∃ j, k = j + 1 := ⟨k - 1, by omega⟩
        obtain ⟨d, hd⟩ : ∃ d, ds.getD j 0 = d := ⟨_, rfl⟩
        obtain ⟨b, off, rfl, hcell⟩ := CA.out _ ((Below.refl _ _).alloc (Nat.le_refl _) (Obj.cells #[Value.slice a len cap, Value.bool m] 54)) j (by omega)
        rw [hd] at hcell
        obtain ⟨s1, s2, s3⟩ := to_step hd hu HV4.out
        have i1 : (0 : Int) ≤ (j : Int) + 1 - 1 := by omega
        have i2 : (j : Int) < (len : Int) := by omega
        have S1 := Lib.hid s1
        clear hd hu s1
        go_wp2_with fail
        go_round
        case rel => exact ⟨j, u * 65536 + d, by omega, by congr 1, by go_num, S1.out⟩
        case measure => simp [RowKit.intOf]

theorem Small.of_le {n m : Int} (h : n.natAbs ≤ m.natAbs) (hm : Small m) : Small n := Nat.lt_of_le_of_lt h hm

/-- the two boxes and the result's own variable, behind what has grown -/
theorem add_cells {w w1 : World} {v1 m1 v2 m2 v3 m3 : Value} {t : TypeId} (hb : Below (w.heap.size + 3) (((w.alloc (Obj.cells #[v1, m1] t)).alloc (Obj.cells #[v2, m2] t)).alloc (Obj.cells #[v3, m3] t)) w1) :
    (w1.cell? ⟨w.heap.size, 0, none⟩ = some v1 ∧ w1.cell? ⟨w.heap.size, 1, none⟩ = some m1 ∧ w1.cell? ⟨w.heap.size + 1, 0, none⟩ = some v2 ∧ w1.cell? ⟨w.heap.size + 1, 1, none⟩ = some m2) ∧
    (w1.cell? ⟨w.heap.size + 1 + 1, 0, none⟩ = some v3 ∧ w1.cell? ⟨w.heap.size + 1 + 1, 1, none⟩ = some m3 ∧ w1.frozen? ⟨w.heap.size + 1 + 1, 0, none⟩ = false ∧ w1.frozen? ⟨w.heap.size + 1 + 1, 1, none⟩ = false) := by
  have h1 := num_cell (w := w) (((Below.refl (w.heap.size + 1) (w.alloc (Obj.cells #[v1, m1] t))).alloc (by simp) (Obj.cells #[v2, m2] t)).alloc (by simp) (Obj.cells #[v3, m3] t) |>.trans (hb.mono (by omega)))
  have h2 := num_cell (w := w.alloc (Obj.cells #[v1, m1] t)) (((Below.refl ((w.alloc (Obj.cells #[v1, m1] t)).heap.size + 1) ((w.alloc (Obj.cells #[v1, m1] t)).alloc (Obj.cells #[v2, m2] t))).alloc (by simp) (Obj.cells #[v3, m3] t)).trans (hb.mono (by simp)))
  have h3 := num_cell (w := (w.alloc (Obj.cells #[v1, m1] t)).alloc (Obj.cells #[v2, m2] t)) (hb.mono (by simp))
  simp only [World.size_alloc] at h2 h3
  exact ⟨⟨h1.1, h1.2.1, h2.1, h2.2.1⟩, h3⟩

theorem add_below (w : World) (o1 o2 o3 : Obj) : Below w.heap.size w (((w.alloc o1).alloc o2).alloc o3) :=
  (((Below.refl _ _).alloc (Nat.le_refl _) _).alloc (by simp) _).alloc (by simp; omega) _

theorem two_far {w2 : World} {B b o : Nat} (h : b ≠ B) (v1 v2 : Value) : ((w2.setCell ⟨B, 0, none⟩ v1).setCell ⟨B, 1, none⟩ v2).cell? ⟨b, o, none⟩ = w2.cell? ⟨b, o, none⟩ := by
  rw [World.cell?_setCell_other, World.cell?_setCell_other]
  · intro e; cases e; exact h rfl
  · intro e; cases e; exact h rfl

/-- cells of before, behind two stores into a block of the call's own -/
theorem cells_two {w2 : World} {a : Option Addr} {len B : Nat} {vs : List Value} (h : Cells w2 a len vs) (hne : ∀ x, a = some x → len = 0 ∨ x.block ≠ B) (v1 v2 : Value) :
    Cells ((w2.setCell ⟨B, 0, none⟩ v1).setCell ⟨B, 1, none⟩ v2) a len vs := (h.set _ _ hne).set _ _ hne

set_option maxHeartbeats 4000000 in
/-- the sum of two of one sign -/
theorem add_same (a b : Option Addr) (la lb ca cb : Nat) (xs ys : List Nat) (x y : Int) (m : Bool) (w : World) (ha : Cells w a la (xs.map d64)) (hb : Cells w b lb (ys.map d64)) (da : Canon xs) (db : Canon ys)
    (na : NilOk a ca) (nb : NilOk b cb) (pa : la ≤ ca) (pb : lb ≤ cb) (hla : la ≤ 1000) (hlb : lb ≤ 1000) (vx : val xs = x.natAbs) (vy : val ys = y.natAbs) (hmx : decide (x < 0) = m) (hmy : decide (y < 0) = m) :
    Calls Tryd.prog 23 #[.agg #[.slice a la ca, .bool m], .agg #[.slice b lb cb, .bool m]] w (NumTo w (x + y)) := by
  have CA : Hid (∀ W, Below w.heap.size w W → Cells W a la (xs.map d64)) := fun W hW => ha.up hW
  have CB : Hid (∀ W, Below w.heap.size w W → Cells W b lb (ys.map d64)) := fun W hW => hb.up hW
  have tm : (m == m) = true := by simp
  have VX := Lib.hid vx
  have VY := Lib.hid vy
  have HX := Lib.hid hmx
  have HY := Lib.hid hmy
  clear ha hb vx vy hmx hmy
  go_enter Tryd.func23, Tryd.ntmps23
  go_wp2_with fail
  go_region_held3 (fun w' => w'.cell? ⟨w.heap.size, 0, none⟩ = some (.slice a la ca) ∧ w'.cell? ⟨w.heap.size, 1, none⟩ = some (.bool m) ∧ w'.cell? ⟨w.heap.size + 1, 0, none⟩ = some (.slice b lb cb))
    (first | (go_keep; done) | exact ⟨K1.1, K1.2.1, K1.2.2.1⟩ | exact ⟨K2.1, K2.2.1, K2.2.2.1⟩ | exact ⟨(two_far (by omega) _ _).trans K2.1, (two_far (by omega) _ _).trans K2.2.1, (two_far (by omega) _ _).trans K2.2.2.1⟩)
    (first
      | (go_at_call 41; refine (plus_any a b la lb ca cb xs ys _ (CA.out _ (by go_grown)) (CB.out _ (by go_grown)) da.1 db.1 (by omega) (by omega)).mono ?_; rintro e w1 ⟨v1, ds, k, rfl, o1, dd, hv, hk, hb1⟩
         have B1 : Below (w.heap.size + 3) (((w.alloc (Obj.cells #[.slice a la ca, .bool m] 54)).alloc (Obj.cells #[.slice b lb cb, .bool m] 54)).alloc (Obj.cells #[.slice none 0 0, .bool false] 54)) w1 := Below.trans (by go_grown) (hb1.mono (by simp))
         obtain ⟨K1, _⟩ := add_cells B1
         obtain ⟨g, cp, rfl, hcl, hnil, hcp, hgb⟩ := own_slice o1
         have HV := Lib.hid hv
         clear o1 hv)
      | (go_at_call 40; refine (norm_any g k cp ds m _ hcl dd (by omega) hcp).mono ?_; rintro e w2 ⟨j, hj, rfl, hcan2, hv2, hb2⟩
         have B2 : Below (w.heap.size + 3) (((w.alloc (Obj.cells #[.slice a la ca, .bool m] 54)).alloc (Obj.cells #[.slice b lb cb, .bool m] 54)).alloc (Obj.cells #[.slice none 0 0, .bool false] 54)) w2 := B1.trans (hb2.mono (by have := B1.size; simp at this; simp; omega))
         obtain ⟨K2, C0, C1, F0, F1⟩ := add_cells B2
         have hcl2 := hcl.up hb2
         have HV2 := Lib.hid hv2
         clear hv2 hcl))
  go_wp2_with fail
  refine bodyPost_ret (v := .agg #[.slice g j cp, .bool (m && decide (0 < j))]) (by simp [Go.results, Tryd.results23, go_sem, C0, C1]) rfl ?_
  have hvv : val ds = (x + y).natAbs := by
    rw [HV.out, VX.out, VY.out]
    have h1 := HX.out
    have h2 := HY.out
    cases m <;> simp at h1 h2 <;> omega
  refine ⟨_, rfl, norm_num (cells_two hcl2 (fun z hz => Or.inr (by have := hgb z hz; simp at this; show z.block ≠ w.heap.size + 1 + 1; omega)) _ _) hj hcan2 HV2.out hnil hcp hvv ?_, ?_⟩
  · intro h0
    have h1 := HX.out
    have h2 := HY.out
    cases m <;> simp at h1 h2 <;> simp <;> omega
  · exact (((add_below w _ _ _).trans (B2.mono (by omega))).setCell (by simp; omega) _).setCell (by simp; omega) _

set_option maxHeartbeats 4000000 in
theorem add_lt (a b : Option Addr) (la lb ca cb : Nat) (xs ys : List Nat) (x y : Int) (m n : Bool) (w : World) (ha : Cells w a la (xs.map d64)) (hb : Cells w b lb (ys.map d64)) (da : Canon xs) (db : Canon ys)
    (na : NilOk a ca) (nb : NilOk b cb) (pa : la ≤ ca) (pb : lb ≤ cb) (hla : la ≤ 1000) (hlb : lb ≤ 1000) (vx : val xs = x.natAbs) (vy : val ys = y.natAbs) (hmx : decide (x < 0) = m) (hmy : decide (y < 0) = n)
    (hmn : (m == n) = false) (hlt : val xs < val ys) :
    Calls Tryd.prog 23 #[.agg #[.slice a la ca, .bool m], .agg #[.slice b lb cb, .bool n]] w (NumTo w (x + y)) := by
  have la0 : xs.length = la := by have := ha.1; rwa [List.length_map] at this
  have lb0 : ys.length = lb := by have := hb.1; rwa [List.length_map] at this
  have CA : Hid (∀ W, Below w.heap.size w W → Cells W a la (xs.map d64)) := fun W hW => ha.up hW
  have CB : Hid (∀ W, Below w.heap.size w W → Cells W b lb (ys.map d64)) := fun W hW => hb.up hW
  have LEN : Hid (la ≤ lb) := by show la ≤ lb; rw [← la0]; exact canon_len da (by have := val_lt ys db.1; rw [lb0] at this; omega)
  have LT := Lib.hid hlt
  have DEC : Hid (decide (val xs < val ys) = true) := decide_eq_true hlt
  have MLEN : Hid (∀ k (ds : List Nat), (ds.map d64).length = k → Canon ds → val ds = val ys - val xs → k ≤ 1000) := fun k ds h1 h2 h3 => by
    rw [List.length_map] at h1
    rw [← h1]
    exact Nat.le_trans (canon_len h2 (Nat.lt_of_le_of_lt (by rw [h3]; exact Nat.sub_le _ _) (val_lt ys db.1))) (by rw [lb0]; exact hlb)
  have VX := Lib.hid vx
  have VY := Lib.hid vy
  have HX := Lib.hid hmx
  have HY := Lib.hid hmy
  have HMN := Lib.hid hmn
  clear ha hb vx vy hmx hmy la0 lb0 hlt
  go_enter Tryd.func23, Tryd.ntmps23
  go_wp2_with fail
  refine (less_any a b la lb ca cb xs ys _ (CA.out _ (by go_grown)) (CB.out _ (by go_grown)) da db (by omega) (by omega)).mono ?_
  rintro e w0 ⟨rfl, nq, rfl⟩
  rw [DEC.out]
  go_wp2_with fail
  go_region_held3 (fun w' => w'.cell? ⟨w.heap.size, 0, none⟩ = some (.slice a la ca) ∧ w'.cell? ⟨w.heap.size + 1, 0, none⟩ = some (.slice b lb cb) ∧ w'.cell? ⟨w.heap.size + 1, 1, none⟩ = some (.bool n))
    (first | (go_keep; done) | exact ⟨K1.1, K1.2.2.1, K1.2.2.2⟩ | exact ⟨K2.1, K2.2.2.1, K2.2.2.2⟩ | exact ⟨(two_far (by omega) _ _).trans K2.1, (two_far (by omega) _ _).trans K2.2.2.1, (two_far (by omega) _ _).trans K2.2.2.2⟩)
    (first
      | (go_at_call 43; refine (minus_any b a lb la cb ca ys xs _ (CB.out _ (below_drewN (add_below _ _ _ _) _)) (CA.out _ (below_drewN (add_below _ _ _ _) _)) db.1 da.1 (by omega) LEN.out (Nat.le_of_lt LT.out)).mono ?_; rintro e w1 ⟨g, k, cp, ds, rfl, hcl, hnil, hcp, hgb, hcan, hv, hb1⟩
         have B1 : Below (w.heap.size + 3) (((w.alloc (Obj.cells #[.slice a la ca, .bool m] 54)).alloc (Obj.cells #[.slice b lb cb, .bool n] 54)).alloc (Obj.cells #[.slice none 0 0, .bool false] 54)) w1 := Below.trans (below_drewN (Below.refl _ _) _) (hb1.mono (by simp))
         obtain ⟨K1, _⟩ := add_cells B1
         have hln : k ≤ 1000 := MLEN.out k ds hcl.1 hcan hv
         have HV := Lib.hid hv
         clear hv)
      | (go_at_call 40; refine (norm_any g k cp ds n _ hcl hcan.1 (by omega) hcp).mono ?_; rintro e w2 ⟨j, hj, rfl, hcan2, hv2, hb2⟩
         have B2 : Below (w.heap.size + 3) (((w.alloc (Obj.cells #[.slice a la ca, .bool m] 54)).alloc (Obj.cells #[.slice b lb cb, .bool n] 54)).alloc (Obj.cells #[.slice none 0 0, .bool false] 54)) w2 := B1.trans (hb2.mono (by have := B1.size; simp at this; simp; omega))
         obtain ⟨K2, C0, C1, F0, F1⟩ := add_cells B2
         have hcl2 := hcl.up hb2
         have HV2 := Lib.hid hv2
         clear hv2 hcl))
  go_wp2_with fail
  refine bodyPost_ret (v := .agg #[.slice g j cp, .bool (n && decide (0 < j))]) (by simp [Go.results, Tryd.results23, go_sem, C0, C1]) rfl ?_
  have hvv : val ds = (x + y).natAbs := by
    rw [HV.out, VX.out, VY.out]
    have h1 := HX.out
    have h2 := HY.out
    have h3 := HMN.out
    have h4 := LT.out
    rw [VX.out, VY.out] at h4
    cases m <;> cases n <;> simp at h1 h2 h3 <;> omega
  refine ⟨_, rfl, norm_num (cells_two hcl2 (fun z hz => Or.inr (by have := hgb z hz; simp at this; show z.block ≠ w.heap.size + 1 + 1; omega)) _ _) hj hcan2 HV2.out hnil hcp hvv ?_, ?_⟩
  · intro h0
    have h1 := HX.out
    have h2 := HY.out
    have h3 := HMN.out
    have h4 := LT.out
    rw [VX.out, VY.out] at h4
    cases m <;> cases n <;> simp at h1 h2 h3 <;> simp <;> omega
  · exact (((add_below w _ _ _).trans (B2.mono (by omega))).setCell (by simp; omega) _).setCell (by simp; omega) _

set_option maxHeartbeats 4000000 in
theorem add_ge (a b : Option Addr) (la lb ca cb : Nat) (xs ys : List Nat) (x y : Int) (m n : Bool) (w : World) (ha : Cells w a la (xs.map d64)) (hb : Cells w b lb (ys.map d64)) (da : Canon xs) (db : Canon ys)
    (na : NilOk a ca) (nb : NilOk b cb) (pa : la ≤ ca) (pb : lb ≤ cb) (hla : la ≤ 1000) (hlb : lb ≤ 1000) (vx : val xs = x.natAbs) (vy : val ys = y.natAbs) (hmx : decide (x < 0) = m) (hmy : decide (y < 0) = n)
    (hmn : (m == n) = false) (hlt : ¬ val xs < val ys) :
    Calls Tryd.prog 23 #[.agg #[.slice a la ca, .bool m], .agg #[.slice b lb cb, .bool n]] w (NumTo w (x + y)) := by
  have la0 : xs.length = la := by have := ha.1; rwa [List.length_map] at this
  have lb0 : ys.length = lb := by have := hb.1; rwa [List.length_map] at this
  have CA : Hid (∀ W, Below w.heap.size w W → Cells W a la (xs.map d64)) := fun W hW => ha.up hW
  have CB : Hid (∀ W, Below w.heap.size w W → Cells W b lb (ys.map d64)) := fun W hW => hb.up hW
  have LEN : Hid (lb ≤ la) := by show lb ≤ la; rw [← lb0]; exact canon_len db (by have := val_lt xs da.1; rw [la0] at this; omega)
  have LT := Lib.hid hlt
  have DEC : Hid (decide (val xs < val ys) = false) := decide_eq_false hlt
  have MLEN : Hid (∀ k (ds : List Nat), (ds.map d64).length = k → Canon ds → val ds = val xs - val ys → k ≤ 1000) := fun k ds h1 h2 h3 => by
    rw [List.length_map] at h1
    rw [← h1]
    exact Nat.le_trans (canon_len h2 (Nat.lt_of_le_of_lt (by rw [h3]; exact Nat.sub_le _ _) (val_lt xs da.1))) (by rw [la0]; exact hla)
  have VX := Lib.hid vx
  have VY := Lib.hid vy
  have HX := Lib.hid hmx
  have HY := Lib.hid hmy
  have HMN := Lib.hid hmn
  clear ha hb vx vy hmx hmy la0 lb0 hlt
  go_enter Tryd.func23, Tryd.ntmps23
  go_wp2_with fail
  refine (less_any a b la lb ca cb xs ys _ (CA.out _ (by go_grown)) (CB.out _ (by go_grown)) da db (by omega) (by omega)).mono ?_
  rintro e w0 ⟨rfl, nq, rfl⟩
  rw [DEC.out]
  go_wp2_with fail
  go_region_held3 (fun w' => w'.cell? ⟨w.heap.size, 0, none⟩ = some (.slice a la ca) ∧ w'.cell? ⟨w.heap.size, 1, none⟩ = some (.bool m) ∧ w'.cell? ⟨w.heap.size + 1, 0, none⟩ = some (.slice b lb cb))
    (first | (go_keep; done) | exact ⟨K1.1, K1.2.1, K1.2.2.1⟩ | exact ⟨K2.1, K2.2.1, K2.2.2.1⟩ | exact ⟨(two_far (by omega) _ _).trans K2.1, (two_far (by omega) _ _).trans K2.2.1, (two_far (by omega) _ _).trans K2.2.2.1⟩)
    (first
      | (go_at_call 43; refine (minus_any a b la lb ca cb xs ys _ (CA.out _ (below_drewN (add_below _ _ _ _) _)) (CB.out _ (below_drewN (add_below _ _ _ _) _)) da.1 db.1 (by omega) LEN.out (Nat.le_of_not_lt LT.out)).mono ?_; rintro e w1 ⟨g, k, cp, ds, rfl, hcl, hnil, hcp, hgb, hcan, hv, hb1⟩
         have B1 : Below (w.heap.size + 3) (((w.alloc (Obj.cells #[.slice a la ca, .bool m] 54)).alloc (Obj.cells #[.slice b lb cb, .bool n] 54)).alloc (Obj.cells #[.slice none 0 0, .bool false] 54)) w1 := Below.trans (below_drewN (Below.refl _ _) _) (hb1.mono (by simp))
         obtain ⟨K1, _⟩ := add_cells B1
         have hln : k ≤ 1000 := MLEN.out k ds hcl.1 hcan hv
         have HV := Lib.hid hv
         clear hv)
      | (go_at_call 40; refine (norm_any g k cp ds m _ hcl hcan.1 (by omega) hcp).mono ?_; rintro e w2 ⟨j, hj, rfl, hcan2, hv2, hb2⟩
         have B2 : Below (w.heap.size + 3) (((w.alloc (Obj.cells #[.slice a la ca, .bool m] 54)).alloc (Obj.cells #[.slice b lb cb, .bool n] 54)).alloc (Obj.cells #[.slice none 0 0, .bool false] 54)) w2 := B1.trans (hb2.mono (by have := B1.size; simp at this; simp; omega))
         obtain ⟨K2, C0, C1, F0, F1⟩ := add_cells B2
         have hcl2 := hcl.up hb2
         have HV2 := Lib.hid hv2
         clear hv2 hcl))
  go_wp2_with fail
  refine bodyPost_ret (v := .agg #[.slice g j cp, .bool (m && decide (0 < j))]) (by simp [Go.results, Tryd.results23, go_sem, C0, C1]) rfl ?_
  have hvv : val ds = (x + y).natAbs := by
    rw [HV.out, VX.out, VY.out]
    have h1 := HX.out
    have h2 := HY.out
    have h3 := HMN.out
    have h4 := LT.out
    rw [VX.out, VY.out] at h4
    cases m <;> cases n <;> simp at h1 h2 h3 <;> omega
  refine ⟨_, rfl, norm_num (cells_two hcl2 (fun z hz => Or.inr (by have := hgb z hz; simp at this; show z.block ≠ w.heap.size + 1 + 1; omega)) _ _) hj hcan2 HV2.out hnil hcp hvv ?_, ?_⟩
  · intro h0
    have h1 := HX.out
    have h2 := HY.out
    have h3 := HMN.out
    have h4 := LT.out
    rw [VX.out, VY.out] at h4
    cases m <;> cases n <;> simp at h1 h2 h3 <;> simp <;> omega
  · exact (((add_below w _ _ _).trans (B2.mono (by omega))).setCell (by simp; omega) _).setCell (by simp; omega) _

/-- the contract -/
theorem addN_any (u v : Value) (x y : Int) (w : World) (hu : NumAt w u x) (hv : NumAt w v y) (su : Small x) (sv : Small y) :
    Calls Tryd.prog 23 #[u, v] w (NumTo w (x + y)) := by
  obtain ⟨a, la, ca, xs, rfl, ha, na, pa, da, vx⟩ := hu
  obtain ⟨b, lb, cb, ys, rfl, hb, nb, pb, db, vy⟩ := hv
  have la0 : xs.length = la := by have := ha.1; rwa [List.length_map] at this
  have lb0 : ys.length = lb := by have := hb.1; rwa [List.length_map] at this
  have hla : la ≤ 60 := by rw [← la0]; exact canon_len da (by rw [vx]; exact su)
  have hlb : lb ≤ 60 := by rw [← lb0]; exact canon_len db (by rw [vy]; exact sv)
  by_cases h : decide (x < 0) = decide (y < 0)
  · rw [← h]
    exact add_same a b la lb ca cb xs ys x y _ w ha hb da db na nb pa pb (by omega) (by omega) vx vy rfl h.symm
  · have h' : (decide (x < 0) == decide (y < 0)) = false := by simpa using h
    by_cases hlt : val xs < val ys
    · exact add_lt a b la lb ca cb xs ys x y _ _ w ha hb da db na nb pa pb (by omega) (by omega) vx vy rfl rfl h' hlt
    · exact add_ge a b la lb ca cb xs ys x y _ _ w ha hb da db na nb pa pb (by omega) (by omega) vx vy rfl rfl h' hlt
end Go.Proofs.YtcdkgfjjgebcnaaDoor
