/- The landed package book: rows of the call's own, written in the middle; an entry's lines told; lines with their signs turned. -/
import Derived.Test.YtcdkgfjjgebcnaaDoorBkLib
namespace Go.Proofs.YtcdkgfjjgebcnaaDoor
open Go Go.RowKit
set_option linter.unusedVariables false

theorem ownsRow_set {w : World} {base : Nat} {e : TypeId} {size : Nat} {v : Value} {n : Nat} {xs : List Value} (h : w.ownsRow base e size v n xs) {g i : Nat} (hv : v.ownBlock = some g) (u : Value) : (w.setCell ⟨g, i, none⟩ u).ownsRow base e size v n (xs.set i u) := by
  obtain ⟨h1, h2⟩ := h
  refine ⟨by rw [List.length_set]; exact h1, ?_⟩
  rcases h2 with ⟨rfl, _⟩ | ⟨g', cap, cur, rfl, hB, hh, hc, hm, hs, ht⟩
  · cases hv
  · cases hv
    refine Or.inr ⟨g', cap, cur.setIfInBounds i u, rfl, hB, ?_, hc, hm, by simpa using hs, ?_⟩
    · simp only [World.setCell, Array.getElem?_modify, if_pos, hh]
      simp
    · rw [Array.toList_setIfInBounds, ← ht, List.take_set]

theorem flatL_setV {l : List Ln} {j : Nat} {x : Ln} (h : l[j]? = some x) (v : Int) : flatL (l.set j ⟨x.k, x.o, v⟩) = (flatL l).set (j * 3 + 2) (.int .i64 v) := by
  induction l generalizing j with
  | nil => simp at h
  | cons a l ih =>
    cases j with
    | zero => simp only [List.getElem?_cons_zero, Option.some.injEq] at h; subst h; rfl
    | succ j =>
      simp only [List.getElem?_cons_succ] at h
      have e : (j + 1) * 3 + 2 = j * 3 + 2 + 1 + 1 + 1 := by omega
      rw [e]
      simp only [List.set_cons_succ, flatL, ih h]
theorem flatE_cons (a : En) (l : List En) : flatG GEn (a :: l) = .slice a.a a.n a.c :: .bool a.d :: flatG GEn l := rfl
theorem flatE_setD {l : List En} {j : Nat} {x : En} (h : l[j]? = some x) (d : Bool) : flatG GEn (l.set j ⟨x.a, x.n, x.c, d⟩) = (flatG GEn l).set (j * 2 + 1) (.bool d) := by
  induction l generalizing j with
  | nil => simp at h
  | cons a l ih =>
    cases j with
    | zero => simp only [List.getElem?_cons_zero, Option.some.injEq] at h; subst h; rfl
    | succ j =>
      simp only [List.getElem?_cons_succ] at h
      have e : (j + 1) * 2 + 1 = j * 2 + 1 + 1 + 1 := by omega
      rw [e]
      simp only [List.set_cons_succ, flatE_cons, ih h]
theorem flatE_setL {l : List En} {j : Nat} {x : En} (h : l[j]? = some x) (a : Option Addr) (n c : Nat) : flatG GEn (l.set j ⟨a, n, c, x.d⟩) = (flatG GEn l).set (j * 2) (.slice a n c) := by
  induction l generalizing j with
  | nil => simp at h
  | cons a' l ih =>
    cases j with
    | zero => simp only [List.getElem?_cons_zero, Option.some.injEq] at h; subst h; rfl
    | succ j =>
      simp only [List.getElem?_cons_succ] at h
      have e : (j + 1) * 2 = j * 2 + 1 + 1 := by omega
      rw [e]
      simp only [List.set_cons_succ, flatE_cons, ih h]

theorem ownsL_setV {B : Nat} {v : Value} {ls : List Ln} {w : World} (h : OwnsL B v ls w) {g : Nat} (hv : v.ownBlock = some g) {j : Nat} {x : Ln} (hx : ls[j]? = some x) (y : Int) : OwnsL B v (ls.set j ⟨x.k, x.o, y⟩) (w.setCell ⟨g, j * 3 + 2, none⟩ (.int .i64 y)) := by
  have h1 := ownsRow_set h hv (i := j * 3 + 2) (.int .i64 y)
  unfold OwnsL
  rw [flatL_setV hx, List.length_set]
  exact h1
theorem ownsE_setD {B : Nat} {v : Value} {es : List En} {w : World} (h : OwnsG GEn B v es w) {g : Nat} (hv : v.ownBlock = some g) {j : Nat} {x : En} (hx : es[j]? = some x) (d : Bool) : OwnsG GEn B v (es.set j ⟨x.a, x.n, x.c, d⟩) (w.setCell ⟨g, j * 2 + 1, none⟩ (.bool d)) := by
  have h1 := ownsRow_set h hv (i := j * 2 + 1) (.bool d)
  unfold OwnsG
  rw [flatE_setD hx, List.length_set]
  exact h1
theorem ownsE_setL {B : Nat} {v : Value} {es : List En} {w : World} (h : OwnsG GEn B v es w) {g : Nat} (hv : v.ownBlock = some g) {j : Nat} {x : En} (hx : es[j]? = some x) (a : Option Addr) (n c : Nat) : OwnsG GEn B v (es.set j ⟨a, n, c, x.d⟩) (w.setCell ⟨g, j * 2, none⟩ (.slice a n c)) := by
  have h1 := ownsRow_set h hv (i := j * 2) (.slice a n c)
  unfold OwnsG
  rw [flatE_setL hx, List.length_set]
  exact h1

set_option maxHeartbeats 4000000 in
theorem entry10_any {F : Nat → Prop} {g m : Nat} {v : Value} {es : List En} {s : Bk} {N : Nat} {f : Int → Int → Option Int} (n : Int) (w : World) (H : BAt F g m v es s N f w) (hn : in64 n) :
    Calls Tryd.prog 13 #[.pointer (some ⟨g, 0, none⟩), .int .i64 n] w fun e w' => Below w.heap.size w w' ∧
      ((0 ≤ n ∧ n < (s.L.length : Int) ∧ ∃ v, e = .returned (.tuple #[v, .nilIface]) ∧ OwnLn w.heap.size v (s.L.getD n.toNat []) w') ∨
        ((n < 0 ∨ (s.L.length : Int) ≤ n) ∧ ∃ a c, e = .returned (.tuple #[.slice a 0 c, errv 4]))) := by
  have hst := stands_any n w H hn
  by_cases h : 0 ≤ n ∧ n < (s.L.length : Int)
  · rw [show standsN s n = true from decide_eq_true h] at hst
    obtain ⟨h1, h2⟩ := h
    obtain ⟨j, rfl⟩ : ∃ j : Nat, n = (j : Int) := ⟨n.toNat, by omega⟩
    obtain ⟨q, c, x, ls, rfl, -, -, -, hx, hl, hm, hd, hxn, hla, -, -, -, e0, -⟩ := H.entry (j := j) (by omega)
    obtain ⟨c0, c1⟩ := H.cells
    have hok := H.ok ls hm
    have hcl := cloneLn_any x.a x.n x.c ls w hla (by rw [hxn]; exact hok.1) (by rw [hxn]; have := hok.2.1; omega)
    have HE : Hid (s.L.getD ((j : Int)).toNat [] = ls) := by show _ = _; rw [Int.toNat_natCast]; simp [List.getD, hl]
    obtain ⟨xa, xn, xc, xd⟩ := x
    simp only at hcl e0
    clear H hx hl hm hd hxn hla hok hn
    go_enter Tryd.func13, Tryd.ntmps13
    go_wp2_with fail
    refine hst.mono ?_
    rintro e w1 ⟨rfl, rfl⟩
    go_wp2_with fail
    refine hcl.mono ?_
    rintro e w2 ⟨v, rfl, ho, hb⟩
    go_wp2_with fail
    go_ret2
    exact ⟨hb, Or.inl ⟨h1, h2, v, rfl, by rw [HE.out]; exact ho.told⟩⟩
  · rw [show standsN s n = false from decide_eq_false h] at hst
    have HN : Hid (n < 0 ∨ (s.L.length : Int) ≤ n) := by show _ ∨ _; omega
    clear H hn h
    go_enter Tryd.func13, Tryd.ntmps13
    go_wp2_with fail
    refine hst.mono ?_
    rintro e w1 ⟨rfl, rfl⟩
    go_wp2_with fail
    go_ret2
    exact ⟨Below.refl _ _, Or.inr ⟨HN.out, none, 0, rfl⟩⟩

theorem turn_set {ls : List Ln} {j : Nat} {x : Ln} (h : ls[j]? = some x) : (turnL (ls.take j) ++ ls.drop j)[j]? = some x ∧ (turnL (ls.take j) ++ ls.drop j).set j ⟨x.k, x.o, -x.v⟩ = turnL (ls.take (j + 1)) ++ ls.drop (j + 1) := by
  have hj := (List.getElem?_eq_some_iff.1 h).1
  have hx := (List.getElem?_eq_some_iff.1 h).2
  have hl : (turnL (ls.take j)).length = j := by unfold turnL; simp; omega
  have hd : ls.drop j = x :: ls.drop (j + 1) := by rw [List.drop_eq_getElem_cons hj, hx]
  have ht : turnL (ls.take (j + 1)) = turnL (ls.take j) ++ [⟨x.k, x.o, -x.v⟩] := by
    unfold turnL
    rw [List.take_add_one, h]
    simp
  constructor
  · rw [List.getElem?_append_right (by rw [hl]; exact Nat.le_refl _), hl, Nat.sub_self, hd]
    rfl
  · rw [List.set_append_right _ _ (by rw [hl]; exact Nat.le_refl _), hl, Nat.sub_self, hd, List.set_cons_zero, ht]
    simp

set_option maxHeartbeats 4000000 in
theorem turned_any (a : Option Addr) (n c : Nat) (ls : List Ln) (w : World) (hl : LinesAt w a n ls) (h0 : 1 ≤ n) (hn : n ≤ 1000) (hok : ∀ x ∈ ls, in64 x.v ∧ x.v ≠ -9223372036854775808) :
    Calls Tryd.prog 36 #[.slice a n c] w fun e w' => ∃ v, e = .returned v ∧ OwnsL w.heap.size v (turnL ls) w' ∧ Below w.heap.size w w' := by
  have hcl := cloneLn_any a n c ls w hl h0 hn
  have HLN := Lib.hid hl.1
  have HOK := Lib.hid hok
  clear hl hok
  go_enter Tryd.func36, Tryd.ntmps36
  go_wp2_with fail
  refine hcl.mono ?_
  rintro e w1 ⟨v, rfl, ho, hb⟩
  obtain ⟨a1, c1, rfl, h2, h3, h4, h5, h6, h7⟩ := ho.open
  obtain ⟨bl, rfl⟩ : ∃ bl, a1 = some ⟨bl, 0, none⟩ := by
    rcases h2.2 with h | ⟨b, off, rfl, -⟩
    · have := HLN.out; omega
    · have h := (h6 _ rfl).2.1
      simp only at h
      subst h
      exact ⟨b, rfl⟩
  have hc0 : n ≤ c1 := by rw [← HLN.out]; exact h3
  have HO : Hid (OwnsL w.heap.size (.slice (some ⟨bl, 0, none⟩) ls.length c1) (turnL (ls.take 0) ++ ls.drop 0) w1) := ho
  have HBW : Hid (w.heap.size ≤ bl) := (h6 _ rfl).1
  have HB := Lib.hid hb
  have hvl := HLN.out
  rw [hvl] at HO ⊢
  clear ho h2 h3 h4 h5 h6 h7 hb hvl
  go_wp2_with fail
  go_loopw [9] (fun i wr => ∃ j : Nat, i = .int .i64 (j : Int) ∧ j ≤ n ∧ Hid (OwnsL w.heap.size (.slice (some ⟨bl, 0, none⟩) n c1) (turnL (ls.take j) ++ ls.drop j) wr) ∧ Hid (Below w.heap.size w wr)) (fun i _ => n - (RowKit.intOf i).toNat)
  case atStart => exact ⟨0, rfl, by omega, HO, HB⟩
  case round =>
    obtain ⟨j, rfl, hj, hO, hB⟩ := hrel
    by_cases hlt : j < n
    · have u1 : (j : Int) < (n : Int) := by omega
      have hjl : j < ls.length := by rw [HLN.out]; exact hlt
      obtain ⟨x, hx⟩ : ∃ x, ls[j]? = some x := ⟨_, List.getElem?_eq_getElem hjl⟩
      obtain ⟨y1, y2⟩ := turn_set hx
      have hv := HOK.out x (List.mem_of_getElem? hx)
      have hN : Hid (OwnsL w.heap.size (.slice (some ⟨bl, 0, none⟩) n c1) (turnL (ls.take (j + 1)) ++ ls.drop (j + 1)) (wr.setCell ⟨bl, j * 3 + 2, none⟩ (.int .i64 (-x.v)))) := by
        rw [← y2]
        exact ownsL_setV hO.out rfl y1 (-x.v)
      have hBN : Hid (Below w.heap.size w (wr.setCell ⟨bl, j * 3 + 2, none⟩ (.int .i64 (-x.v)))) := hB.out.setCell HBW.out _
      obtain ⟨a', c', e', g2, -, -, -, -, g7⟩ := hO.out.open
      rcases g2.2 with h | ⟨b', off', e2, hc⟩
      · exfalso
        have := (List.getElem?_eq_some_iff.1 y1).1
        omega
      · simp only [Value.slice.injEq] at e'
        obtain ⟨rfl, -, -⟩ := e'
        cases e2
        have hf := g7 _ (j * 3 + 2) rfl
        obtain ⟨-, -, cv⟩ := hc j x y1
        rw [Nat.zero_add] at cv
        have t1 : IntKind.i64.wrap (-x.v) = -x.v := IntWalk.i64_in _ (by unfold in64 at hv; omega)
        clear y1 y2 hv g2 g7 hc hx
        go_wp2_with fail
        go_roundw
        case rel => exact ⟨j + 1, by go_num, by omega, hN, hBN⟩
        case measure => simp [RowKit.intOf]; omega
    · have u1 : ¬ (j : Int) < (n : Int) := by omega
      obtain rfl : j = n := by omega
      have HR : Hid (OwnsL w.heap.size (.slice (some ⟨bl, 0, none⟩) j c1) (turnL ls) wr) := by
        have h := hO.out
        rw [List.take_of_length_le (by rw [HLN.out]; exact Nat.le_refl _), List.drop_eq_nil_of_le (by rw [HLN.out]; exact Nat.le_refl _), List.append_nil] at h
        exact h
      go_wp2_with fail
      go_ret
      exact ⟨_, rfl, HR.out, hB.out⟩
end Go.Proofs.YtcdkgfjjgebcnaaDoor
