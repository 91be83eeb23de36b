/- The contracts of the document's answers of layer 2. -/
import Derived.Test.YtgdhfbjpedikhaaRateAny
namespace Go.Proofs.Ytgdhfbjpedikhaa
open Go Go.RowKit
set_option linter.unusedVariables false

set_option maxHeartbeats 400000 in
theorem refMay_any (b r : Int) (v : Bool) (hv : mayQ b r = v) (w : World) :
    Calls Try.prog 16 #[.int .i64 b, .int .i64 r] w fun e w' => e = .returned (.bool v) ∧ w' = w := by
  subst hv
  by_cases c1 : 0 ≤ b <;> by_cases c2 : b ≤ 10000000000000 <;> by_cases c3 : 0 ≤ r <;> by_cases c4 : r ≤ 300000
  all_goals
    go_enter Try.func16, Try.ntmps16
    go_wp2
    go_ret
    exact ⟨retb (by unfold mayQ mayP; first | (symm; exact decide_eq_true ⟨by omega, by omega, by omega, by omega⟩) | (symm; exact decide_eq_false (by omega))), rfl⟩

theorem rnd4_up {n : Int} (h : 6000000 < n % 12000000) : rndC 4 n 12000000 = n / 12000000 + 1 := by
  unfold rndC
  rw [if_neg (by omega), if_neg (by omega), if_neg (by omega), if_pos (by omega)]
theorem rnd4_down {n : Int} (h : n % 12000000 < 6000000) : rndC 4 n 12000000 = n / 12000000 := by
  unfold rndC
  by_cases c : n % 12000000 = 0
  · rw [if_pos (Or.inl c)]
  · rw [if_neg (by omega), if_neg (by omega), if_pos (by omega)]
theorem rnd4_odd {n : Int} (h : n % 12000000 = 6000000) (g : n / 12000000 % 2 = 1) : rndC 4 n 12000000 = n / 12000000 + 1 := by
  unfold rndC
  rw [if_neg (by omega), if_neg (by omega), if_neg (by omega), if_neg (by omega), if_neg (by omega)]
theorem rnd4_even {n : Int} (h : n % 12000000 = 6000000) (g : n / 12000000 % 2 = 0) : rndC 4 n 12000000 = n / 12000000 := by
  unfold rndC
  rw [if_neg (by omega), if_neg (by omega), if_neg (by omega), if_neg (by omega), if_pos (by omega)]

set_option maxHeartbeats 400000 in
theorem refMonth_walk (b r n q s m : Int) (hw : wrap64 (b * r) = n) (n0 : 0 ≤ n) (n1 : n ≤ 3000000000000000000) (hm : Hid (rndC 4 n 12000000 = m)) (w : World) :
    Calls Try.prog 17 #[.int .i64 b, .int .i64 r] w fun e w' => e = .returned (.int .i64 m) ∧ w' = w := by
  by_cases h1 : 6000000 < n % 12000000
  · have HM := Lib.hid (hm.out.symm.trans (rnd4_up h1))
    go_enter Try.func17, Try.ntmps17
    go_wp2
    go_ret
    exact ⟨ret1 HM.out.symm, rfl⟩
  · by_cases h2 : n % 12000000 = 6000000
    · have h2' : (n % 12000000 == 6000000) = true := by simpa using h2
      by_cases h3 : n / 12000000 % 2 = 1
      · have h3' : (n / 12000000 % 2 == 1) = true := by simpa using h3
        have HM := Lib.hid (hm.out.symm.trans (rnd4_odd h2 h3))
        clear h2 h3
        go_enter Try.func17, Try.ntmps17
        go_wp2
        go_ret
        exact ⟨ret1 HM.out.symm, rfl⟩
      · have h3' : (n / 12000000 % 2 == 1) = false := by simpa using h3
        have HM := Lib.hid (hm.out.symm.trans (rnd4_even h2 (by omega)))
        clear h2 h3
        go_enter Try.func17, Try.ntmps17
        go_wp2
        go_ret
        exact ⟨ret1 HM.out.symm, rfl⟩
    · have h2' : (n % 12000000 == 6000000) = false := by simpa using h2
      have HM := Lib.hid (hm.out.symm.trans (rnd4_down (by omega)))
      clear h2
      go_enter Try.func17, Try.ntmps17
      go_wp2
      go_ret
      exact ⟨ret1 HM.out.symm, rfl⟩

theorem refMonth_any (b r m : Int) (h : mayP b r) (hm : mon b r = m) (w : World) :
    Calls Try.prog 17 #[.int .i64 b, .int .i64 r] w fun e w' => e = .returned (.int .i64 m) ∧ w' = w := by
  have hp := prod_bound h.1 h.2.1 h.2.2.1 h.2.2.2
  exact refMonth_walk b r (b * r) 0 0 m (by unfold wrap64; omega) hp.1 hp.2 (Lib.hid hm) w

/-- what the document's Next tells -/
def nextR (x : Int) : Ending := if 10000000000000 < x then .returned (.tuple #[.int .i64 0, .bool false]) else .returned (.tuple #[.int .i64 x, .bool true])

theorem retN {a b : Int} {v : Value} (h : a = b) : Ending.returned (.tuple #[.int .i64 a, v]) = .returned (.tuple #[.int .i64 b, v]) := by rw [h]

theorem refNext_any (b r p : Int) (h : mayP b r) (hp : 0 ≤ p) (w : World) :
    Calls Try.prog 18 #[.int .i64 b, .int .i64 r, .int .i64 p] w fun e w' => e = nextR (nxt b r p) ∧ w' = w := by
  have b1 := h.1
  have b2 := h.2.1
  obtain ⟨m, hm⟩ : ∃ m, mon b r = m := ⟨_, rfl⟩
  have m0 := mon_room h
  rw [hm] at m0
  obtain ⟨m0, m1⟩ := m0
  have H := Lib.hid h
  have HM := Lib.hid hm
  have hx : (b + m ≤ p ∧ nxt b r p = 0) ∨ (p < b + m ∧ nxt b r p = b + m - p) := by
    unfold nxt; rw [hm]; split <;> omega
  clear hm h
  rcases hx with ⟨c, hx⟩ | ⟨c, hx⟩
  · have e : nextR (nxt b r p) = .returned (.tuple #[.int .i64 0, .bool true]) := by unfold nextR; rw [hx, if_neg (by omega)]
    rw [e]
    clear e hx
    go_enter Try.func18, Try.ntmps18
    go_wp2_with fail
    refine (refMonth_any b r m H.out HM.out _).mono ?_
    rintro e w' ⟨rfl, rfl⟩
    go_wp2_with fail
    go_ret2
    exact ⟨rfl, rfl⟩
  · by_cases d : 10000000000000 < b + m - p
    · have e : nextR (nxt b r p) = .returned (.tuple #[.int .i64 0, .bool false]) := by unfold nextR; rw [hx, if_pos (by omega)]
      rw [e]
      clear e hx
      go_enter Try.func18, Try.ntmps18
      go_wp2_with fail
      refine (refMonth_any b r m H.out HM.out _).mono ?_
      rintro e w' ⟨rfl, rfl⟩
      go_wp2_with fail
      go_ret2
      exact ⟨rfl, rfl⟩
    · have e : nextR (nxt b r p) = .returned (.tuple #[.int .i64 (b + m - p), .bool true]) := by unfold nextR; rw [hx, if_neg (by omega)]
      rw [e]
      clear e hx
      go_enter Try.func18, Try.ntmps18
      go_wp2_with fail
      refine (refMonth_any b r m H.out HM.out _).mono ?_
      rintro e w' ⟨rfl, rfl⟩
      go_wp2_with fail
      go_ret2
      exact ⟨rfl, rfl⟩

theorem refNext_is (b r p x : Int) (h : mayP b r) (hp : 0 ≤ p) (hx : nxt b r p = x) (hx' : x ≤ 10000000000000) (w : World) :
    Calls Try.prog 18 #[.int .i64 b, .int .i64 r, .int .i64 p] w fun e w' => e = .returned (.tuple #[.int .i64 x, .bool true]) ∧ w' = w := by
  refine (refNext_any b r p h hp w).mono fun e w' ⟨he, hw⟩ => ⟨?_, hw⟩
  rw [he, hx]; unfold nextR; rw [if_neg (by omega)]
theorem refNext_over (b r p : Int) (h : mayP b r) (hp : 0 ≤ p) (hx : 10000000000000 < nxt b r p) (w : World) :
    Calls Try.prog 18 #[.int .i64 b, .int .i64 r, .int .i64 p] w fun e w' => e = .returned (.tuple #[.int .i64 0, .bool false]) ∧ w' = w := by
  refine (refNext_any b r p h hp w).mono fun e w' ⟨he, hw⟩ => ⟨?_, hw⟩
  rw [he]; unfold nextR; rw [if_pos hx]

/-- what the document's Left tells -/
def refLeftR : Option Int → Ending
  | some x => .returned (.tuple #[.int .i64 x, .bool true])
  | none => .returned (.tuple #[.int .i64 0, .bool false])
def RefLeftEnd (o : Option Int) (w : World) (e : Ending) (w' : World) : Prop := e = refLeftR o ∧ w' = w

set_option maxHeartbeats 1000000 in
theorem refLeft_walk (b r p : Int) (n : Nat) (o : Option Int) (h : mayP b r) (hp : 0 ≤ p) (hn : n ≤ 480) (ho : Hid (lft r p n b = o)) (w : World) :
    Calls Try.prog 20 #[.int .i64 b, .int .i64 r, .int .i64 p, .int .i64 n] w (RefLeftEnd o w) := by
  have b1 := h.1
  have b2 := h.2.1
  have b3 := h.2.2.1
  have b4 := h.2.2.2
  clear h
  go_enter Try.func20, Try.ntmps20
  go_wp2_with fail
  go_loop [0, 10] (fun v i => ∃ (k : Nat) (c : Int), k ≤ n ∧ i = .int .i64 k ∧ v = .int .i64 c ∧ 0 ≤ c ∧ c ≤ 10000000000000 ∧ Hid (lft r p (n - k) c = o)) (fun _ i => n - (intOf i).toNat)
  case atStart => exact ⟨0, b, Nat.zero_le _, rfl, rfl, b1, b2, ho⟩
  case round =>
    obtain ⟨k, c, hk, rfl, rfl, c1, c2, hl⟩ := hrel
    have HM : Hid (mayP c r) := ⟨c1, c2, b3, b4⟩
    by_cases hlt : k < n
    · by_cases hov : 10000000000000 < nxt c r p
      · have hn := lft_over hlt hl.out hov
        subst hn
        have HO := Lib.hid hov
        clear hov
        go_wp2_with fail
        refine (refNext_over c r p HM.out hp HO.out _).mono ?_
        rintro e w' ⟨rfl, hw⟩
        subst w'
        go_wp2_with fail
        go_ret2
        exact ⟨rfl, rfl⟩
      · have hl' := Lib.hid (lft_on hlt hl.out (by omega))
        obtain ⟨x, hx⟩ : ∃ x, nxt c r p = x := ⟨_, rfl⟩
        have hb := nxt_bound HM.out hp
        rw [hx] at hov hb hl'
        have HX := Lib.hid hx
        clear hx
        obtain ⟨hb1, -, -⟩ := hb
        go_wp2_with fail
        refine (refNext_is c r p x HM.out hp HX.out (by omega) _).mono ?_
        rintro e w' ⟨rfl, hw⟩
        subst w'
        go_wp2_with fail
        go_round
        case rel => exact ⟨k + 1, x, by omega, by go_num, rfl, hb1, by omega, hl'⟩
        case measure => simp [intOf]; omega
    · have hk' : k = n := by omega
      subst hk'
      have : o = some c := by have := hl.out; simp [lft] at this; exact this.symm
      subst this
      go_wp2_with fail
      go_ret2
      exact ⟨rfl, rfl⟩

theorem refLeft_yes (b r p n x : Int) (h : mayP b r) (hp : 0 ≤ p) (hn : 0 ≤ n) (hn' : n ≤ 480) (ho : lft r p n.toNat b = some x) (w : World) :
    Calls Try.prog 20 #[.int .i64 b, .int .i64 r, .int .i64 p, .int .i64 n] w fun e w' => e = .returned (.tuple #[.int .i64 x, .bool true]) ∧ w' = w := by
  have e : ((n.toNat : Nat) : Int) = n := by omega
  have := refLeft_walk b r p n.toNat (some x) h hp (by omega) (Lib.hid ho) w
  rw [e] at this
  exact this
theorem refLeft_over (b r p n : Int) (h : mayP b r) (hp : 0 ≤ p) (hn : 0 ≤ n) (hn' : n ≤ 480) (ho : lft r p n.toNat b = none) (w : World) :
    Calls Try.prog 20 #[.int .i64 b, .int .i64 r, .int .i64 p, .int .i64 n] w fun e w' => e = .returned (.tuple #[.int .i64 0, .bool false]) ∧ w' = w := by
  have e : ((n.toNat : Nat) : Int) = n := by omega
  have := refLeft_walk b r p n.toNat none h hp (by omega) (Lib.hid ho) w
  rw [e] at this
  exact this

theorem refPays_any (b r p n : Int) (h : mayP b r) (hp : 0 ≤ p) (hn : 0 ≤ n) (hn' : n ≤ 480) (v : Bool) (hv : paysQ b r p n.toNat = v) (w : World) :
    Calls Try.prog 22 #[.int .i64 b, .int .i64 r, .int .i64 p, .int .i64 n] w fun e w' => e = .returned (.bool v) ∧ w' = w := by
  subst hv
  cases ho : lft r p n.toNat b with
  | none =>
    have e : paysQ b r p n.toNat = false := by simp [paysQ, paysP, ho]
    rw [e]
    have H := Lib.hid h
    have HO := Lib.hid ho
    clear h ho e
    go_enter Try.func22, Try.ntmps22
    go_wp2_with fail
    refine (refLeft_over b r p n H.out hp hn hn' HO.out _).mono ?_
    rintro e w' ⟨rfl, rfl⟩
    go_wp2_with fail
    go_ret
    exact ⟨rfl, rfl⟩
  | some x =>
    have H := Lib.hid h
    have HO := Lib.hid ho
    by_cases c : x = 0
    · have e : paysQ b r p n.toNat = true := by simp [paysQ, paysP, ho, c]
      rw [e]
      have c' : (x == 0) = true := by simpa using c
      clear h ho e c
      go_enter Try.func22, Try.ntmps22
      go_wp2_with fail
      refine (refLeft_yes b r p n x H.out hp hn hn' HO.out _).mono ?_
      rintro e w' ⟨rfl, rfl⟩
      go_wp2_with fail
      go_ret
      exact ⟨rfl, rfl⟩
    · have e : paysQ b r p n.toNat = false := by simp [paysQ, paysP, ho, c]
      rw [e]
      have c' : (x == 0) = false := by simpa using c
      clear h ho e c
      go_enter Try.func22, Try.ntmps22
      go_wp2_with fail
      refine (refLeft_yes b r p n x H.out hp hn hn' HO.out _).mono ?_
      rintro e w' ⟨rfl, rfl⟩
      go_wp2_with fail
      go_ret
      exact ⟨rfl, rfl⟩
end Go.Proofs.Ytgdhfbjpedikhaa
