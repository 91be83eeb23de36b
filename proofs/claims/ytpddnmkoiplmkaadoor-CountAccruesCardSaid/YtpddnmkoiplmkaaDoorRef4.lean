/- The contract of the long numbers' product (trivetref01.Mul). -/
import Derived.Test.YtpddnmkoiplmkaaDoorRef3
import Derived.OwnWalk
namespace Go.Proofs.YtpddnmkoiplmkaaDoor
open Go Go.RowKit
set_option linter.unusedVariables false

theorem ownsRow_up {w w' : World} {base : Nat} {e : TypeId} {size : Nat} {v : Value} {n : Nat} {xs : List Value} (h : w.ownsRow base e size v n xs) (hb : Below w.heap.size w w') : w'.ownsRow base e size v n xs := by
  refine ⟨h.1, ?_⟩
  rcases h.2 with h1 | ⟨g, cap, cur, hv, hB, hg, h2⟩
  · exact Or.inl h1
  · refine Or.inr ⟨g, cap, cur, hv, hB, ?_, h2⟩
    have hlt : g < w.heap.size := by
      refine Nat.lt_of_not_le fun hge => ?_
      rw [Array.getElem?_eq_none hge] at hg; cases hg
    rw [hb.block g hlt]; exact hg

theorem ownsRow_mono {w : World} {base base' : Nat} {e : TypeId} {size : Nat} {v : Value} {n : Nat} {xs : List Value} (h : w.ownsRow base e size v n xs) (hb : base' ≤ base) : w.ownsRow base' e size v n xs := by
  refine ⟨h.1, ?_⟩
  rcases h.2 with h1 | ⟨g, cap, cur, hv, hB, h2⟩
  · exact Or.inl h1
  · exact Or.inr ⟨g, cap, cur, hv, Nat.le_trans hb hB, h2⟩

theorem zeros (i : Nat) : (madeCells (Value.int .u64 0).cells (i * 1)).toList = (List.replicate i 0).map d64 := by
  show (madeCells #[Value.int .u64 0] (i * 1)).toList = _
  rw [Nat.mul_one, toList_madeCells_one]
  simp [d64]

theorem val_zeros (i : Nat) : val (List.replicate i 0) = 0 := by
  induction i with
  | zero => rfl
  | succ i ih => simp [List.replicate_succ, val, ih]
theorem digits_zeros (i : Nat) : Digits (List.replicate i 0) := fun d hd => by rw [List.eq_of_mem_replicate hd]; omega

set_option maxRecDepth 100000 in
set_option maxHeartbeats 8000000 in
theorem mul_walk (a b : Option Addr) (la lb ca cb : Nat) (xs ys : List Nat) (x y : Int) (m n : Bool) (w : World) (ha : Cells w a la (xs.map d64)) (hb : Cells w b lb (ys.map d64)) (da : Canon xs) (db : Canon ys)
    (hla : la ≤ 60) (hlb : lb ≤ 60) (vx : val xs = x.natAbs) (vy : val ys = y.natAbs) (hmx : decide (x < 0) = m) (hmy : decide (y < 0) = n) :
    Calls Tryd.prog 13 #[.agg #[.slice a la ca, .bool m], .agg #[.slice b lb cb, .bool n]] w (NumTo w (x * y)) := by
  have la0 : xs.length = la := by have := ha.1; rwa [List.length_map] at this
  have lb0 : ys.length = lb := by have := hb.1; rwa [List.length_map] at this
  have LA := Lib.hid la0
  have LB := Lib.hid lb0
  have CA : Hid (∀ W, Below w.heap.size w W → Cells W a la (xs.map d64)) := fun W hW => ha.up hW
  have CB : Hid (∀ W, Below w.heap.size w W → Cells W b lb (ys.map d64)) := fun W hW => hb.up hW
  have VX := Lib.hid vx
  have VY := Lib.hid vy
  have HX := Lib.hid hmx
  have HY := Lib.hid hmy
  clear ha hb vx vy hmx hmy la0 lb0
  obtain ⟨i0, hi0, hz0, hz1, hz2⟩ := info_parts info_u64
  go_enter Tryd.func13, Tryd.ntmps13
  go_wp2_with fail
  obtain ⟨W0, hW0⟩ : ∃ W0, W0 = (((w.alloc (Obj.cells #[.slice a la ca, .bool m] 37)).alloc (Obj.cells #[.slice b lb cb, .bool n] 37)).alloc (Obj.cells #[.slice none 0 0, .bool false] 37)) := ⟨_, rfl⟩
  have E0 : Hid (∀ W, Below (w.heap.size + 3) W0 W → Below (w.heap.size + 3) (((w.alloc (Obj.cells #[.slice a la ca, .bool m] 37)).alloc (Obj.cells #[.slice b lb cb, .bool n] 37)).alloc (Obj.cells #[.slice none 0 0, .bool false] 37)) W) := fun W hW => by rw [← hW0]; exact hW
  have E1 : Hid (∀ W, Below (w.heap.size + 3) W0 W → Below w.heap.size w W) := fun W hW => (add_below w _ _ _).trans (by rw [← hW0]; exact hW.mono (by omega))
  rw [← hW0]
  clear hW0
  go_loopw [5, 6] (fun v i wr => ∃ (k len : Nat) (ds : List Nat), k ≤ la ∧ i = .int .i64 k ∧ len ≤ 200 + k ∧ wr.ownsRow (w.heap.size + 3) 53 1 v len (ds.map d64) ∧ Digits ds ∧ val ds = val (xs.take k) * val ys ∧
      Below (w.heap.size + 3) W0 wr) (fun _ i _ => la - (RowKit.intOf i).toNat)
  case atStart => exact ⟨0, 0, [], by omega, rfl, by omega, World.ownsRow_nil _ _ _ _, digits_nil, by simp [val], Below.refl _ _⟩
  case round =>
    obtain ⟨i, len, ds, hi, rfl, hlen, hown, hds, hval, hbel⟩ := hrel
    obtain ⟨⟨K0, K1, K2, K3⟩, K4, K5, K6, K7⟩ := add_cells (E0.out _ hbel)
    obtain ⟨wo, rfl⟩ : ∃ wo, wo = wr := ⟨_, rfl⟩
    by_cases hlt : i < la
    · have t1 : (i : Int) < (la : Int) := by omega
      have hsz : w.heap.size + 3 ≤ wo.heap.size := by have h0 := (E0.out _ hbel).size; simp only [World.size_alloc] at h0; omega
      obtain ⟨xd, hxd⟩ : ∃ xd, xs.getD i 0 = xd := ⟨_, rfl⟩
      have hxd1 : xd < 65536 := by rw [← hxd]; exact da.1.get i
      have HXD := Lib.hid hxd
      have HO := Lib.hid hown
      have HV := Lib.hid hval
      clear hxd hown hval
      have M1 : Hid (i ≤ maxLen) := by show i ≤ maxLen; simp only [maxLen]; omega
      go_wp2_with (at_make; refine wpList_make_full _ rfl _ _ 35 rfl wo.heap.size 53 i0 (.int .u64 0) 1 Tryd.underlying35 hi0 hz0 hz1 .i64 .i64 _ _ i rfl rfl rfl rfl (by rw [hz2]; omega) M1.out (Nat.le_refl _) ?_; intro w1 o1 q1; rw [zeros] at o1)
      have hb1 : Below wo.heap.size wo w1 := (Below.refl _ _).grown q1 (Nat.le_refl _) (fun k hk => by cases hk)
      have HO1 := Lib.hid o1
      clear o1 q1
      go_loopw [7, 8, 9] (fun v c k wr => ∃ (j cn : Nat) (rs : List Nat), j ≤ lb ∧ cn < 65536 ∧ k = .int .i64 j ∧ c = .int .u64 cn ∧ wr.ownsRow wo.heap.size 53 1 v (i + j) (rs.map d64) ∧ Digits rs ∧
          val rs + cn * 65536 ^ (i + j) = xd * val (ys.take j) * 65536 ^ i ∧ Below wo.heap.size wo wr) (fun _ _ k _ => lb - (RowKit.intOf k).toNat)
      case atStart => exact ⟨0, 0, List.replicate i 0, by omega, by omega, rfl, rfl, HO1.out, digits_zeros i, by rw [val_zeros]; simp [val], hb1⟩
      case round =>
        obtain ⟨j, cn, rs, hj, hcn, rfl, rfl, hor, hrs, hvr, hbr⟩ := hrel
        have hlr : rs.length = i + j := by have := hor.1; rw [List.length_map] at this; omega
        have hbw : Below (w.heap.size + 3) W0 wr := hbel.trans (hbr.mono hsz)
        obtain ⟨⟨L0, L1, L2, L3⟩, _⟩ := add_cells (E0.out _ hbw)
        have hszr : wo.heap.size ≤ wr.heap.size := hbr.size
        by_cases hjl : j < lb
        · obtain ⟨yd, hyd⟩ : ∃ yd, ys.getD j 0 = yd := ⟨_, rfl⟩
          have hyd1 : yd < 65536 := by rw [← hyd]; exact db.1.get j
          have hst := mul_step hlr hvr
          rw [hyd] at hst
          obtain ⟨b1, f1, rfl, c1⟩ := (CA.out _ (E1.out _ hbw)).digit hlt
          obtain ⟨b2, f2, rfl, c2⟩ := (CB.out _ (E1.out _ hbw)).digit hjl
          rw [HXD.out] at c1
          rw [hyd] at c2
          have hp : xd * yd ≤ 65535 * 65535 := Nat.mul_le_mul (by omega) (by omega)
          obtain ⟨p, hpd⟩ : ∃ p, xd * yd = p := ⟨_, rfl⟩
          rw [hpd] at hst hp
          obtain ⟨d, hd⟩ : ∃ d, (p + cn) % 65536 = d := ⟨_, rfl⟩
          obtain ⟨q, hq⟩ : ∃ q, (p + cn) / 65536 = q := ⟨_, rfl⟩
          rw [hd, hq] at hst
          have hd1 : d < 65536 := by omega
          have hq1 : q < 65536 := by omega
          have ep : (xd : Int) * (yd : Int) = (p : Int) := by rw [← Int.natCast_mul, hpd]
          have ew : IntKind.u64.wrap ((p : Int)) = (p : Int) := by rw [wrapU']; omega
          have ew2 : IntKind.u64.wrap ((p : Int) + (cn : Int)) = (p : Int) + (cn : Int) := by rw [wrapU']; omega
          have ed : ((p : Int) + (cn : Int)) % 65536 = (d : Int) := by omega
          have eq : ((p : Int) + (cn : Int)) / 65536 = (q : Int) := by omega
          have i1 : (0 : Int) ≤ (i : Int) := by omega
          have j1 : (0 : Int) ≤ (j : Int) := by omega
          have j2 : (j : Int) < (lb : Int) := by omega
          have M3 : Hid (i + j + 1 ≤ maxLen) := by show i + j + 1 ≤ maxLen; simp only [maxLen]; omega
          have HS := Lib.hid hst
          have HOR := Lib.hid hor
          clear hst hor hd hq hvr hpd hyd hlr K0 K1 K2 K3 K4 K5 K6 K7
          go_wp2_with fail
          go_quiet (fail)
          go_wp2_with (at_builtin; refine wpList_append_cells rfl (.tmp 40) (.tmp 43) 35 rfl wo.heap.size Tu64 _ (i + j) (rs.map d64) rfl (World.ownsRow.alloc (w := World.drewN _ _) HOR.out _) (some ⟨_, 0, none⟩) 1 1 [d64 d] rfl (fun h => by cases h) (cells_new _ _ _) (d64_one [d]) M3.out (by omega) (Nat.le_trans hszr (by simp)) ?_; intro v2 w2 o2 q2 r2 l2)
          have hb2 : Below wo.heap.size wo w2 := ((below_drewN hbr _).alloc hszr _).grown q2 (Nat.le_trans hszr (by simp)) (fun z hz => (HOR.out.lt z hz).1)
          rw [d64_snoc, Nat.add_assoc] at o2
          go_roundw
          case rel => exact ⟨j + 1, q, rs ++ [d], by omega, hq1, by go_num, by first | rfl | rw [eq], o2, hrs.snoc hd1, HS.out, hb2⟩
          case measure => simp [RowKit.intOf]; omega
        · obtain rfl : j = lb := by omega
          have j2 : ¬ (j : Int) < (j : Int) := by omega
          have M3 : Hid (i + j + 1 ≤ maxLen) := by show i + j + 1 ≤ maxLen; simp only [maxLen]; omega
          have hrow : val (rs ++ [cn]) = xd * val ys * 65536 ^ i := by
            rw [List.take_of_length_le (by rw [LB.out]; exact Nat.le_refl _)] at hvr
            rw [val_snoc, hlr]; exact hvr
          have HROW := Lib.hid hrow
          have HOR := Lib.hid hor
          clear hrow hor hvr hlr K0 K1 K2 K3 K4 K5 K6 K7
          go_wp2_with (at_builtin; refine wpList_append_cells rfl (.tmp 47) (.tmp 49) 35 rfl wo.heap.size Tu64 _ (i + j) (rs.map d64) rfl (HOR.out.alloc _) (some ⟨_, 0, none⟩) 1 1 [d64 cn] rfl (fun h => by cases h) (cells_new _ _ _) (d64_one [cn]) M3.out (by omega) (Nat.le_trans hszr (by simp)) ?_; intro v2 w2 o2 q2 r2 l2)
          have hb2 : Below wo.heap.size wo w2 := (hbr.alloc hszr _).grown q2 (Nat.le_trans hszr (by simp)) (fun z hz => (HOR.out.lt z hz).1)
          rw [d64_snoc] at o2
          obtain ⟨g2, cp2, rfl, hcl2, hnil2, hcp2, _⟩ := own_slice o2
          obtain ⟨g1, cp1, rfl, hcl1, hnil1, hcp1, _⟩ := own_slice (ownsRow_up HO.out hb2)
          have hd2 := hrs.snoc hcn
          clear o2 q2 r2 l2
          go_wp2_with fail
          refine (plus_any g1 g2 len (i + j + 1) cp1 cp2 ds (rs ++ [cn]) _ hcl1 hcl2 hds hd2 (by omega) (by omega)).mono ?_
          rintro e w3 ⟨v3, ds3, k3, rfl, o3, dd3, hv3, hk3, hb3⟩
          have hbel3 : Below (w.heap.size + 3) W0 w3 := hbel.trans ((hb2.mono hsz).trans (hb3.mono (Nat.le_trans hsz hb2.size)))
          have o3' := ownsRow_mono o3 (Nat.le_trans hsz hb2.size)
          have hval3 : val ds3 = val (xs.take (i + 1)) * val ys := by
            rw [hv3, HROW.out, HV.out, val_take, HXD.out, Nat.add_mul, Nat.mul_right_comm xd]
          have HV3 := Lib.hid hval3
          have HO3 := Lib.hid o3'
          clear o3 o3' hval3 hv3
          have hk3' : k3 ≤ 200 + (i + 1) := by omega
          go_wp2_with fail
          go_roundw
          case rel => exact ⟨i + 1, k3, ds3, by omega, by go_num, hk3', HO3.out, dd3, HV3.out, hbel3⟩
          case measure => simp [RowKit.intOf]; omega
    · obtain rfl : i = la := by omega
      have t1 : ¬ (i : Int) < (i : Int) := by omega
      obtain ⟨g, cp, rfl, hcl, hnil, hcp, hgb⟩ := own_slice hown
      have hv : val ds = (x * y).natAbs := by
        rw [hval, List.take_of_length_le (by rw [LA.out]; exact Nat.le_refl _), VX.out, VY.out, Int.natAbs_mul]
      have HV := Lib.hid hv
      clear hv hval hown
      go_wp2_with fail
      refine (norm_any g len cp ds _ _ hcl hds (by omega) hcp).mono ?_
      rintro e w2 ⟨j, hj, rfl, hcan2, hv2, hb2⟩
      have B2 : Below (w.heap.size + 3) W0 w2 := hbel.trans (hb2.mono (by have h0 := (E0.out _ hbel).size; simp only [World.size_alloc] at h0; omega))
      obtain ⟨_, C0, C1, F0, F1⟩ := add_cells (E0.out _ B2)
      have hcl2 := hcl.up hb2
      have HV2 := Lib.hid hv2
      clear hv2 hcl
      go_wp2_with fail
      have hm0 : 0 < val ds → (m != n) = decide (x * y < 0) := by
        intro h0
        have hx0 : x ≠ 0 := fun e => by rw [HV.out, e] at h0; simp at h0
        have hy0 : y ≠ 0 := fun e => by rw [HV.out, e] at h0; simp at h0
        have h1 := HX.out
        have h2 := HY.out
        cases m <;> cases n <;> simp at h1 h2 <;> simp
        · exact Int.mul_nonneg h1 h2
        · exact Int.mul_neg_of_pos_of_neg (by omega) h2
        · exact Int.mul_neg_of_neg_of_pos h1 (by omega)
        · exact Int.mul_nonneg_of_nonpos_of_nonpos (by omega) (by omega)
      have hfin : NumTo w (x * y) (.returned (.agg #[.slice g j cp, .bool (m != n && decide (0 < j))])) ((w2.setCell ⟨w.heap.size + 1 + 1, 0, none⟩ (.slice g j cp)).setCell ⟨w.heap.size + 1 + 1, 1, none⟩ (.bool (m != n && decide (0 < j)))) :=
        ⟨_, rfl, norm_num (cells_two hcl2 (fun z hz => Or.inr (by have := hgb z hz; show z.block ≠ w.heap.size + 1 + 1; omega)) _ _) hj hcan2 HV2.out hnil hcp HV.out hm0, ((E1.out _ B2).setCell (by simp; omega) _).setCell (by simp; omega) _⟩
      refine bodyPost_ret (v := .agg #[.slice g j cp, .bool (m != n && decide (0 < j))]) (by simp [Go.results, Tryd.results13, go_sem, C0, C1]; rfl) rfl ?_
      exact hfin

/-- the contract -/
theorem mulN_any (u v : Value) (x y : Int) (w : World) (hu : NumAt w u x) (hv : NumAt w v y) (su : Small x) (sv : Small y) :
    Calls Tryd.prog 13 #[u, v] w (NumTo w (x * y)) := by
  obtain ⟨a, la, ca, xs, rfl, ha, na, pa, da, vx⟩ := hu
  obtain ⟨b, lb, cb, ys, rfl, hb, nb, pb, db, vy⟩ := hv
  have la0 : xs.length = la := by have := ha.1; rwa [List.length_map] at this
  have lb0 : ys.length = lb := by have := hb.1; rwa [List.length_map] at this
  have hla : la ≤ 60 := by rw [← la0]; exact canon_len da (by rw [vx]; exact su)
  have hlb : lb ≤ 60 := by rw [← lb0]; exact canon_len db (by rw [vy]; exact sv)
  exact mul_walk a b la lb ca cb xs ys x y _ _ w ha hb da db hla hlb vx vy rfl rfl
end Go.Proofs.YtpddnmkoiplmkaaDoor
