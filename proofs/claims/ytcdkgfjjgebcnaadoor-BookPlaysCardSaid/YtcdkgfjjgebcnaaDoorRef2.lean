/- The contracts of the long numbers (trivetref01): Of, Neg, To, Add. -/
import Derived.Test.YtcdkgfjjgebcnaaDoorRef1
import Derived.Test.YtcdkgfjjgebcnaaDoorRnd
namespace Go.Proofs.YtcdkgfjjgebcnaaDoor
open Go Go.RowKit
set_option linter.unusedVariables false

/-- the value v is the long number n -/
def NumAt (w : World) (v : Value) (n : Int) : Prop :=
  ∃ (a : Option Addr) (len cap : Nat) (ds : List Nat), v = .agg #[.slice a len cap, .bool (decide (n < 0))] ∧ Cells w a len (ds.map d64) ∧ NilOk a cap ∧ len ≤ cap ∧ Canon ds ∧ val ds = n.natAbs

def NumTo (w : World) (n : Int) (e : Ending) (w' : World) : Prop := ∃ v, e = .returned v ∧ NumAt w' v n ∧ Below w.heap.size w w'

theorem NumAt.up {w w' : World} {v : Value} {n : Int} (h : NumAt w v n) (hb : Below w.heap.size w w') : NumAt w' v n := by
  obtain ⟨a, len, cap, ds, h1, h2, h3⟩ := h
  exact ⟨a, len, cap, ds, h1, h2.up hb, h3⟩

theorem NumTo.trans {w w1 w2 : World} {n : Int} {e : Ending} (h : NumTo w1 n e w2) (hb : Below w.heap.size w w1) : NumTo w n e w2 := by
  obtain ⟨v, h1, h2, h3⟩ := h
  exact ⟨v, h1, h2, hb.trans (h3.mono hb.size)⟩

/-- out of norm -/
theorem norm_num {w' : World} {a : Option Addr} {cap len k : Nat} {ds : List Nat} {minus : Bool} {n : Int} (hc : Cells w' a len (ds.map d64)) (hk : k ≤ ds.length) (hcan : Canon (ds.take k)) (hv : val (ds.take k) = val ds)
    (hn : NilOk a cap) (hcap : len ≤ cap) (hval : val ds = n.natAbs) (hm : 0 < val ds → minus = decide (n < 0)) : NumAt w' (.agg #[.slice a k cap, .bool (minus && decide (0 < k))]) n := by
  have hl : ds.length = len := by have := hc.1; rwa [List.length_map] at this
  refine ⟨a, k, cap, ds.take k, ?_, hc.take (by omega), hn, by omega, hcan, by rw [hv, hval]⟩
  by_cases h0 : val ds = 0
  · have hz := canon_zero hcan (by rw [hv, h0])
    have hk0 : k = 0 := by
      have := congrArg List.length hz
      rw [List.length_take] at this
      simp at this
      rcases this with h | h
      · exact h
      · rw [h] at hk; simpa using hk
    have hn0 : n = 0 := by omega
    subst hk0 hn0
    simp
  · have hk0 : 0 < k := by
      refine Nat.pos_of_ne_zero fun e => h0 ?_
      rw [← hv, e]; simp [val]
    rw [hm (by omega)]
    simp [hk0]

theorem bcell {B : Nat} {W w1 : World} (hb : Below B W w1) : (∀ b o, b < B → w1.cell? ⟨b, o, none⟩ = W.cell? ⟨b, o, none⟩) ∧ (∀ b o, b < B → w1.frozen? ⟨b, o, none⟩ = W.frozen? ⟨b, o, none⟩) :=
  ⟨fun b o h => hb.cell (p := ⟨b, o, none⟩) h, fun b o h => hb.frozen (p := ⟨b, o, none⟩) h⟩

theorem wrapU' (a : Int) : IntKind.u64.wrap a = a % 18446744073709551616 := IntKind.wrap_u64 a

theorem not_u64 (n : Nat) (h : n < 18446744073709551616) : bits .xor .u64 IntKind.u64.max (n : Int) = 18446744073709551615 - (n : Int) := by
  have h1 : (BitVec.ofInt 64 IntKind.u64.max) = BitVec.allOnes 64 := by decide
  have h2 : (BitVec.ofInt 64 (n : Int)).toNat = n := by
    rw [BitVec.ofInt_natCast, BitVec.toNat_ofNat]; exact Nat.mod_eq_of_lt (by omega)
  show IntKind.u64.wrap ((BitVec.ofInt 64 IntKind.u64.max ^^^ BitVec.ofInt 64 (n : Int)).toNat : Int) = _
  rw [h1, BitVec.allOnes_xor, BitVec.toNat_not, h2, wrapU']
  omega

/-- the size of a number of 64 bits, as Go makes it -/
theorem neg_u64 (a : Int) (ha : -9223372036854775808 ≤ a ∧ a ≤ 9223372036854775807) (hneg : a < 0) :
    IntKind.u64.wrap (bits .xor .u64 IntKind.u64.max (IntKind.u64.wrap a) + 1) = ((a.natAbs : Nat) : Int) := by
  obtain ⟨n, hn⟩ : ∃ n : Nat, IntKind.u64.wrap a = (n : Int) := ⟨(IntKind.u64.wrap a).toNat, by rw [wrapU']; omega⟩
  have hn' := hn
  rw [wrapU'] at hn'
  rw [hn, not_u64 n (by omega), wrapU']
  omega

/-- the result's own variable, behind what has grown -/
theorem num_cell {w w2 : World} {a b : Value} {t : TypeId} (hb : Below (w.heap.size + 1) (w.alloc (Obj.cells #[a, b] t)) w2) :
    w2.cell? ⟨w.heap.size, 0, none⟩ = some a ∧ w2.cell? ⟨w.heap.size, 1, none⟩ = some b ∧ w2.frozen? ⟨w.heap.size, 0, none⟩ = false ∧ w2.frozen? ⟨w.heap.size, 1, none⟩ = false := by
  obtain ⟨hc, hf⟩ := bcell hb
  rw [hc _ _ (by omega), hc _ _ (by omega), hf _ _ (by omega), hf _ _ (by omega)]
  refine ⟨?_, ?_, ?_, ?_⟩ <;> simp

set_option maxHeartbeats 2000000 in
theorem of_any (a : Int) (ha : -9223372036854775808 ≤ a ∧ a ≤ 9223372036854775807) (w : World) :
    Calls Tryd.prog 24 #[.int .i64 a] w (NumTo w a) := by
  obtain ⟨u, hu⟩ : ∃ u, a.natAbs = u := ⟨_, rfl⟩
  have hub : u ≤ 9223372036854775808 := by omega
  by_cases hneg : a < 0
  all_goals
    first
    | have E : IntKind.u64.wrap (bits .xor .u64 IntKind.u64.max (IntKind.u64.wrap a) + 1) = (u : Int) := by rw [neg_u64 a ha hneg, hu]
    | obtain rfl : a = (u : Int) := by omega
    go_enter Tryd.func24, Tryd.ntmps24
    go_wp2_with fail
    go_loopw [3, 4, 5] (fun x v i wr => ∃ (k xn : Nat) (ds : List Nat), k ≤ 4 ∧ i = .int .i64 k ∧ x = .int .u64 xn ∧ xn ≤ 18446744073709551615 ∧ wr.ownsRow (w.heap.size + 1) 84 1 v k (ds.map d64) ∧ Digits ds ∧ val ds + xn * 65536 ^ k = u ∧
        Below (w.heap.size + 1) (w.alloc (Obj.cells #[Value.slice none 0 0, Value.bool false] 54)) wr) (fun _ _ i _ => 4 - (RowKit.intOf i).toNat)
    case atStart => exact ⟨0, u, [], by omega, rfl, rfl, by omega, World.ownsRow_nil _ _ _ _, digits_nil, by simp [val], Below.refl _ _⟩
    case round =>
      obtain ⟨k, xn, ds, hk, rfl, rfl, hxn, hown, hds, hval, hbel⟩ := hrel
      have hlen : ds.length = k := by have := hown.1; rw [List.length_map] at this; omega
      have hsz := hbel.size
      simp only [World.size_alloc] at hsz
      by_cases hlt : k < 4
      · obtain ⟨d, hd⟩ : ∃ d, xn % 65536 = d := ⟨_, rfl⟩
        obtain ⟨q, hq⟩ : ∃ q, xn / 65536 = q := ⟨_, rfl⟩
        have hd1 : d < 65536 := by omega
        have ed : (xn : Int) % 65536 = (d : Int) := by omega
        have eq : (xn : Int) / 65536 = (q : Int) := by omega
        have hst : val (ds ++ [d]) + q * 65536 ^ (k + 1) = u := by
          rw [val_snoc, hlen, Nat.pow_succ, ← hval]
          generalize 65536 ^ k = P at *
          have e : d * P + q * (P * 65536) = xn * P := by
            rw [Nat.mul_comm P 65536, ← Nat.mul_assoc, ← Nat.add_mul]
            congr 1
            omega
          generalize q * (P * 65536) = z at *
          omega
        have i2 : (k : Int) < 4 := by omega
        have M3 : Hid (k + 1 ≤ maxLen) := by show k + 1 ≤ maxLen; simp only [maxLen]; omega
        have HS := Lib.hid hst
        have HO := Lib.hid hown
        clear hst hown hd hq hval hlen
        go_wp2_with (at_builtin; refine wpList_append_cells rfl (.tmp 17) (.tmp 20) 52 rfl (w.heap.size + 1) Tu64 _ k (ds.map d64) rfl (HO.out.alloc _) (some ⟨_, 0, none⟩) 1 1 [d64 d] rfl (fun h => by cases h) (cells_new _ _ _) (d64_one [d]) M3.out (by omega) (by simp; omega) ?_; intro v1 w1 o1 q1 r1 l1)
        have hb1 : Below (w.heap.size + 1) (w.alloc (Obj.cells #[Value.slice none 0 0, Value.bool false] 54)) w1 := (hbel.alloc hsz _).grown q1 (by simp; omega) (fun z hz => (HO.out.lt z hz).1)
        rw [d64_snoc] at o1
        go_roundw
        case rel => exact ⟨k + 1, q, ds ++ [d], by omega, by go_num, by first | rfl | rw [eq], by omega, o1, hds.snoc hd1, HS.out, hb1⟩
        case measure => simp [RowKit.intOf]; omega
      · obtain rfl : k = 4 := by omega
        obtain ⟨g, cp, rfl, hcl, hnil, hcp, hgb⟩ := own_slice hown
        have hval' : val ds = u := by
          have h1 := val_lt ds hds
          rw [hlen] at h1
          have e : (65536 : Nat) ^ 4 = 18446744073709551616 := by decide
          rw [e] at hval h1
          omega
        have HVV := Lib.hid hval'
        clear hval hval' hown
        go_wp2_with fail
        refine (norm_any g 4 cp ds _ _ hcl hds (by omega) hcp).mono ?_
        rintro e w2 ⟨j, hj, rfl, hcan, hv, hb2⟩
        have hb3 := hbel.trans (hb2.mono hsz)
        obtain ⟨C0, C1, F0, F1⟩ := num_cell hb3
        go_wp2_with fail
        have hcl2 : Cells w2 g 4 (ds.map d64) := hcl.up hb2
        have hcl3 : ∀ v1 v2, Cells ((w2.setCell ⟨w.heap.size, 0, none⟩ v1).setCell ⟨w.heap.size, 1, none⟩ v2) g 4 (ds.map d64) := fun v1 v2 =>
          (hcl2.set _ _ (fun x hx => Or.inr (by have := hgb x hx; show x.block ≠ w.heap.size; omega))).set _ _ (fun x hx => Or.inr (by have := hgb x hx; show x.block ≠ w.heap.size; omega))
        have hb4 : ∀ v1 v2, Below w.heap.size w ((w2.setCell ⟨w.heap.size, 0, none⟩ v1).setCell ⟨w.heap.size, 1, none⟩ v2) := fun v1 v2 =>
          ((((Below.refl _ _).alloc (Nat.le_refl _) _).trans (hb3.mono (by omega))).setCell (Nat.le_refl _) _).setCell (Nat.le_refl _) _
        have hvu := HVV.out
        first
        | (refine bodyPost_ret (v := .agg #[.slice g j cp, .bool (true && decide (0 < j))]) (by simp [Go.results, Tryd.results24, go_sem, C0, C1]) rfl ?_
           exact ⟨_, rfl, norm_num (hcl3 _ _) hj hcan hv hnil (by omega) (by omega) (fun _ => by simp; omega), hb4 _ _⟩)
        | (refine bodyPost_ret (v := .agg #[.slice g j cp, .bool (decide ((u : Int) < 0) && decide (0 < j))]) (by simp [Go.results, Tryd.results24, go_sem, C0, C1]) rfl ?_
           exact ⟨_, rfl, norm_num (hcl3 _ _) hj hcan hv hnil (by omega) (by omega) (fun _ => rfl), hb4 _ _⟩)
end Go.Proofs.YtcdkgfjjgebcnaaDoor
