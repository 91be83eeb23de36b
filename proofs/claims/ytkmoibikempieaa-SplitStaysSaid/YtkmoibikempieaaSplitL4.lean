/- The walk of SplitStays. -/
import Derived.Test.YtkmoibikempieaaSplitC
namespace Go.Proofs.Ytkmoibikempieaa
open Go Go.RowKit
set_option linter.unusedVariables false

set_option maxHeartbeats 1000000 in
theorem stays3_long (SH : Hid SharesC) (T : Int) (a : Option Addr) (len cap : Nat) (w : World) (h : 500 < len) (hm : len ≤ 9223372036854775807) :
    Calls Try.prog 6 #[.int .i64 T, .slice a len cap] w fun e w' => e = .returned (.bool true) ∧ Below w.heap.size w w' := by
  have c : (500 : Int) < (len : Int) := by omega
  go_enter Try.func6, Try.ntmps6
  go_wp2_with fail
  refine (up03_any SH _).mono ?_
  rintro e w1 ⟨rfl, hb⟩
  go_wp2_with fail
  go_ret
  exact ⟨rfl, hb⟩

/-- an own slice that isn't nil -/
theorem own_some {w : World} {B n : Nat} {E : TypeId} {v : Value} {zs : List Int} (h : w.ownsRow B E 1 v n (zs.map i64v)) (hb : ∀ z ∈ zs, -9223372036854775808 ≤ z ∧ z ≤ 9223372036854775807) (hv : ¬ v = .slice none 0 0) :
    ∃ g cap, v = .slice (some ⟨g, 0, none⟩) n cap ∧ Elems w (some ⟨g, 0, none⟩) n zs ∧ n ≤ cap ∧ B ≤ g ∧ g < w.heap.size := by
  rcases h.2 with ⟨rfl, hnil⟩ | ⟨g, cap, cur, rfl, hB, _, hc, _⟩
  · exact absurd rfl hv
  · exact ⟨g, cap, rfl, row_elems' h hb, hc, hB, (h.lt g rfl).2⟩

set_option maxHeartbeats 2000000 in
theorem stays3_walk (SH : Hid SharesC) (T : Int) (a : Option Addr) (len cap : Nat) (zs : List Int) (w : World) (hT : -9223372036854775808 ≤ T ∧ T ≤ 9223372036854775807) (h : Elems w a len zs) (hl : len ≤ 500) (hlc : len ≤ cap) (hnil : a = none → cap = 0) :
    Calls Try.prog 6 #[.int .i64 T, .slice a len cap] w fun e w' => e = .returned (.bool true) ∧ Below w.heap.size w w' := by
  have c : ¬ (500 : Int) < (len : Int) := by omega
  have HE := Lib.hid h
  have HNIL := Lib.hid hnil
  clear h hnil
  go_enter Try.func6, Try.ntmps6
  go_wp2_with fail
  refine (up03_any SH _).mono ?_
  rintro e w1 ⟨rfl, hb1⟩
  have HB1 := Lib.hid hb1
  have HE1 := Lib.hid ((HE.out.up hb1).up ((Below.refl _ _).alloc (Nat.le_refl _) (Obj.cells #[] 2)))
  have M3 : Hid (0 + len ≤ maxLen) := by show 0 + len ≤ maxLen; simp only [maxLen]; omega
  clear hb1
  go_wp2_with (at_builtin; refine wpList_append_cells rfl (.tmp 18) (.tmp 19) 22 rfl w1.heap.size Ti64 (.slice (some ⟨w1.heap.size, 0, none⟩) 0 0) 0 [] rfl (World.ownsRow_lit _ #[] 0 (Nat.le_refl _) (by decide) rfl) a len cap (zs.map i64v) rfl HNIL.out HE1.out.cells (i64v_one zs) M3.out (by omega) (by simp) ?_; intro v1 w2 o1 q1 r1 l1)
  have hv1 : ¬ v1 = .slice none 0 0 := fun e => by have := (r1.1 e).1; cases this
  rw [List.nil_append, Nat.zero_add] at o1
  obtain ⟨g, cg, rfl, he2, hcg, hg1, hg2⟩ := own_some o1 HE.out.2.1 hv1
  have hb2 : Below w1.heap.size w1 w2 := ((Below.refl _ _).alloc (Nat.le_refl _) _).grown q1 (by simp) (by intro k hk; simp only [Value.ownBlock, Option.some.injEq] at hk; exact Nat.le_of_eq hk)
  have HE2 := Lib.hid he2
  have HB2 := Lib.hid (HB1.out.trans (hb2.mono HB1.out.size))
  have HA2 := Lib.hid ((HE.out.up HB1.out).up hb2)
  clear o1 q1 r1 l1 hv1 he2 hb2 M3
  go_wp2_with fail
  refine (SH.out T _ len cg zs _ hT.1 hT.2 HE2.out hcg (by omega)).mono ?_
  rintro e w3 ⟨hb3, ⟨hn, rfl⟩ | ⟨hok, b, cb, rfl, hown⟩⟩
  · have HB3 := Lib.hid hb3
    have HN := Lib.hid hn
    clear hb3 hn
    have M4 : Hid (0 + 0 ≤ maxLen) := by show 0 + 0 ≤ maxLen; simp only [maxLen]; omega
    go_wp2_with (at_builtin; refine wpList_append_cells rfl (.tmp 27) (.tmp 28) 22 rfl w3.heap.size Ti64 (.slice (some ⟨w3.heap.size, 0, none⟩) 0 0) 0 [] rfl (World.ownsRow_lit _ #[] 0 (Nat.le_refl _) (by decide) rfl) none 0 0 ([].map i64v) rfl (fun _ => rfl) (elems_nil _ _).cells (i64v_one []) M4.out (by omega) (by simp) ?_; intro v2 w4 o2 q2 r2 l2)
    have hv2 : ¬ v2 = .slice none 0 0 := fun e => by have := (r2.1 e).1; cases this
    rw [List.nil_append, Nat.zero_add] at o2
    obtain ⟨g2, cg2, rfl, he4, hcg2, hg3, hg4⟩ := own_some o2 (by simp) hv2
    have hb4 : Below w3.heap.size w3 w4 := ((Below.refl _ _).alloc (Nat.le_refl _) _).grown q2 (by simp) (by intro k hk; simp only [Value.ownBlock, Option.some.injEq] at hk; exact Nat.le_of_eq hk)
    have HB4 := Lib.hid hb4
    clear o2 q2 r2 l2 hv2 he4 hb4 M4
    go_wp2_with fail
    go_loop [10] (fun i => i = .int .i64 0) (fun _ => 0)
    case atStart => rfl
    case round =>
      obtain rfl := hrel
      go_wp2_with fail
      refine (SH.out T _ len cg zs _ hT.1 hT.2 ((HE2.out.up HB3.out).up HB4.out) hcg (by omega)).mono ?_
      rintro e w5 ⟨hb5, ⟨-, rfl⟩ | ⟨hok, -⟩⟩
      · have HE5 := Lib.hid (((HE2.out.up HB3.out).up HB4.out).up hb5)
        have HA5 := Lib.hid (((HA2.out.up HB3.out).up HB4.out).up hb5)
        have HB5 := Lib.hid (HB2.out.trans (((HB3.out.trans (HB4.out.mono HB3.out.size)).trans (hb5.mono (Nat.le_trans HB3.out.size HB4.out.size))).mono HB2.out.size))
        clear hb5
        go_wp2_with fail
        go_quiet ((first
          | (go_at_call 12; with_reducible exact Calls.quiet_of (same_eq (some ⟨g, 0, none⟩) a len cg cap zs _ (HE5.out.drewN _) (HA5.out.drewN _) (by omega)))
          | (go_at_call 12; with_reducible exact Calls.quiet_of (same_eq none (some ⟨g2, 0, none⟩) 0 0 cg2 [] _ (elems_nil _ _) (elems_nil _ _) (by omega)))))
        go_wp2_with fail
        go_ret
        exact ⟨rfl, below_drewN HB5.out _⟩
      · exact absurd hok HN.out
  · have hz : zs.length = len := HE.out.1
    have HB3 := Lib.hid hb3
    have HK := Lib.hid hok
    have HE3 := Lib.hid (row_elems' hown (shares_room hok))
    have hbb := hown.lt b rfl
    rw [hz] at hown HE3 ⊢
    have HO := Lib.hid hown
    clear hb3 hok hown
    have M4 : Hid (0 + len ≤ maxLen) := by show 0 + len ≤ maxLen; simp only [maxLen]; omega
    have HEL := Lib.hid (HE3.out.up ((Below.refl _ _).alloc (Nat.le_refl _) (Obj.cells #[] 2)))
    have ncb : (some (⟨b, 0, none⟩ : Addr) = none → cb = 0) := fun h => by cases h
    have HNB := Lib.hid ncb
    clear ncb
    go_wp2_with (at_builtin; refine wpList_append_cells rfl (.tmp 27) (.tmp 28) 22 rfl w3.heap.size Ti64 (.slice (some ⟨w3.heap.size, 0, none⟩) 0 0) 0 [] rfl (World.ownsRow_lit _ #[] 0 (Nat.le_refl _) (by decide) rfl) (some ⟨b, 0, none⟩) len cb ((sharesL T zs).map i64v) rfl HNB.out HEL.out.cells (i64v_one _) M4.out (by omega) (by simp) ?_; intro v2 w4 o2 q2 r2 l2)
    have hv2 : ¬ v2 = .slice none 0 0 := fun e => by have := (r2.1 e).1; cases this
    rw [List.nil_append, Nat.zero_add] at o2
    obtain ⟨g2, cg2, rfl, he4, hcg2, hg3, hg4⟩ := own_some o2 (shares_room HK.out) hv2
    have hb4 : Below w3.heap.size w3 w4 := ((Below.refl _ _).alloc (Nat.le_refl _) _).grown q2 (by simp) (by intro k hk; simp only [Value.ownBlock, Option.some.injEq] at hk; exact Nat.le_of_eq hk)
    have HE4 := Lib.hid he4
    have HO4 := Lib.hid (HO.out.kept (World.grownBy_alloc w3 (Obj.cells #[] 2) none) (by simp [Value.ownBlock]) |>.kept q2 (by right; simp only [Value.ownBlock, ne_eq, Option.some.injEq]; omega))
    have HW4 := Lib.hid ((HE2.out.up HB3.out).up hb4)
    have HA4 := Lib.hid ((HA2.out.up HB3.out).up hb4)
    have HB4 := Lib.hid (HB2.out.trans ((HB3.out.trans (hb4.mono HB3.out.size)).mono HB2.out.size))
    have hne1 : g ≠ b := by omega
    have hne2 : g2 ≠ b := by omega
    have hbw : w.heap.size ≤ b := Nat.le_trans HB2.out.size hbb.1
    have HAB : Hid (∀ x, a = some x → len = 0 ∨ x.block ≠ b) := fun x hx => by
      rcases HE.out.blk x hx with h0 | h0
      · exact Or.inl h0
      · right; omega
    clear o2 q2 r2 l2 hv2 he4 hb4 M4 HO HEL HE3
    go_wp2_with fail
    go_loopw [10] (fun i wr => ∃ (k : Nat) (vs : List Value), k ≤ len ∧ i = .int .i64 k ∧ wr.ownsRow w2.heap.size 2 1 (.slice (some ⟨b, 0, none⟩) len cb) len vs ∧ Hid (Elems wr (some ⟨g, 0, none⟩) len zs) ∧ Hid (Elems wr a len zs) ∧
      Hid (Elems wr (some ⟨g2, 0, none⟩) len (sharesL T zs)) ∧ Hid (Below w.heap.size w wr)) (fun i _ => len - (RowKit.intOf i).toNat)
    case atStart => exact ⟨0, _, Nat.zero_le _, rfl, HO4.out, HW4, HA4, HE4, HB4⟩
    case round =>
      obtain ⟨k, vs, hk, rfl, hown, E1, E2, E3, B1⟩ := hrel
      by_cases hlt : k < len
      · have k0 : (0 : Int) ≤ (k : Int) := by omega
        have k1 : (k : Int) < (len : Int) := by omega
        have c0 := hown.cellAt k (by omega)
        obtain ⟨y, hy⟩ : ∃ y, vs[k]? = some y := ⟨_, List.getElem?_eq_getElem (by have := hown.1; omega)⟩
        have c1 := c0.trans hy
        clear c0 hy
        have c2 := hown.frozenAt k
        have F1 : Hid (Elems (wr.setCell ⟨b, k, none⟩ (.int .i64 (-1))) (some ⟨g, 0, none⟩) len zs) := E1.out.set _ _ (fun x hx => Or.inr (by cases hx; exact hne1))
        have F2 : Hid (Elems (wr.setCell ⟨b, k, none⟩ (.int .i64 (-1))) a len zs) := E2.out.set _ _ (fun x hx => HAB.out x hx)
        have F3 : Hid (Elems (wr.setCell ⟨b, k, none⟩ (.int .i64 (-1))) (some ⟨g2, 0, none⟩) len (sharesL T zs)) := E3.out.set _ _ (fun x hx => Or.inr (by cases hx; exact hne2))
        have F4 : Hid (Below w.heap.size w (wr.setCell ⟨b, k, none⟩ (.int .i64 (-1)))) := B1.out.setCell hbw _
        have F5 := Lib.hid (hown.stored k (.int .i64 (-1))).1
        clear hown
        go_wp2_with fail
        go_roundw
        case rel => exact ⟨k + 1, _, by omega, by go_num, F5.out, F1, F2, F3, F4⟩
        case measure => simp [RowKit.intOf]; omega
      · have k1 : ¬ (k : Int) < (len : Int) := by omega
        clear hown
        go_wp2_with fail
        refine (SH.out T _ len cg zs _ hT.1 hT.2 E1.out hcg (by omega)).mono ?_
        rintro e w5 ⟨hb5, ⟨hn, -⟩ | ⟨hok, b5, c5, rfl, hown5⟩⟩
        · exact absurd HK.out hn
        · have G1 := Lib.hid (E1.out.up hb5)
          have G2 := Lib.hid (E2.out.up hb5)
          have G3 := Lib.hid (E3.out.up hb5)
          have G4 := row_elems' hown5 (shares_room hok)
          rw [hz] at G4 ⊢
          have G5 := Lib.hid G4
          have HB5 := Lib.hid (B1.out.trans (hb5.mono B1.out.size))
          clear hb5 hok hown5 G4 hz
          go_wp2_with fail
          go_quiet ((first
            | (go_at_call 12; with_reducible exact Calls.quiet_of (same_eq (some ⟨g, 0, none⟩) a len cg cap zs _ (G1.out.drewN _) (G2.out.drewN _) (by omega)))
            | (go_at_call 12; with_reducible exact Calls.quiet_of (same_eq (some ⟨b5, 0, none⟩) (some ⟨g2, 0, none⟩) len c5 cg2 (sharesL T zs) _ (G5.out.drewN _) (G3.out.drewN _) (by omega)))))
          go_wp2_with fail
          go_ret
          exact ⟨rfl, below_drewN HB5.out _⟩

theorem splitStays_walk (SH : Hid SharesC) (T : Int) (a : Option Addr) (len cap : Nat) (zs : List Int) (w : World) (hT : -9223372036854775808 ≤ T ∧ T ≤ 9223372036854775807) (h : IsRow .i64 w a len cap zs) :
    Calls Try.prog 6 #[.int .i64 T, .slice a len cap] w fun e w' => e = .returned (.bool true) ∧ Below w.heap.size w w' := by
  obtain ⟨h1, h2, h3⟩ := row_elems h
  by_cases hl : 500 < len
  · exact stays3_long SH T a len cap w hl (by simp [maxLen] at h3; omega)
  · refine stays3_walk SH T a len cap _ w hT h1 (by omega) h2 fun e => ?_
    rcases h with ⟨_, _, h, _⟩ | ⟨x, he, _⟩
    · exact h
    · rw [he] at e; cases e
end Go.Proofs.Ytkmoibikempieaa
