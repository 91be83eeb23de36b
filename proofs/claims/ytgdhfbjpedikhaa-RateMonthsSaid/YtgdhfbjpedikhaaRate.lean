/- The contracts of package rate. -/
import Derived.Test.YtgdhfbjpedikhaaMulDiv
import Derived.Test.YtgdhfbjpedikhaaRateNum
namespace Go.Proofs.Ytgdhfbjpedikhaa
open Go Go.RowKit
set_option linter.unusedVariables false

theorem mayQ_yes {b r : Int} (h : mayP b r) : mayQ b r = true := by simpa [mayQ] using h
theorem mayQ_no {b r : Int} (h : ¬ mayP b r) : mayQ b r = false := by simpa [mayQ] using h

set_option maxHeartbeats 400000 in
theorem mayBe_any (b r : Int) (w : World) :
    Calls Try.prog 32 #[.int .i64 b, .int .i64 r] w fun e w' => e = .returned (.bool (mayQ b r)) ∧ w' = w := by
  by_cases c1 : 0 ≤ b <;> by_cases c2 : b ≤ 10000000000000 <;> by_cases c3 : 0 ≤ r <;> by_cases c4 : r ≤ 300000
  all_goals
    go_enter Try.func32, Try.ntmps32
    go_wp2
    go_ret
    exact ⟨retb (by unfold mayQ mayP; first | (symm; exact decide_eq_true ⟨by omega, by omega, by omega, by omega⟩) | (symm; exact decide_eq_false (by omega))), rfl⟩

theorem mayBe_yes (b r : Int) (h : mayP b r) (w : World) :
    Calls Try.prog 32 #[.int .i64 b, .int .i64 r] w fun e w' => e = .returned (.bool true) ∧ w' = w := by
  rw [← mayQ_yes h]; exact mayBe_any b r w
theorem mayBe_no (b r : Int) (h : ¬ mayP b r) (w : World) :
    Calls Try.prog 32 #[.int .i64 b, .int .i64 r] w fun e w' => e = .returned (.bool false) ∧ w' = w := by
  rw [← mayQ_no h]; exact mayBe_any b r w

theorem month_no (b r : Int) (h : ¬ mayP b r) (w : World) :
    Calls Try.prog 14 #[.int .i64 b, .int .i64 r] w fun e w' => e = .returned (.tuple #[.int .i64 0, .iface 27 (.int .i64 1)]) ∧ w' = w := by
  have H := Lib.hid h
  clear h
  go_enter Try.func14, Try.ntmps14
  go_wp2_with fail
  refine (mayBe_no b r H.out _).mono ?_
  rintro e w' ⟨rfl, rfl⟩
  go_wp2_with fail
  go_ret2
  exact ⟨rfl, rfl⟩

theorem month_yes (b r m : Int) (h : mayP b r) (hm : mon b r = m) (w : World) :
    Calls Try.prog 14 #[.int .i64 b, .int .i64 r] w fun e w' => e = .returned (.tuple #[.int .i64 m, .nilIface]) ∧ ∃ n, w' = World.drewN w n := by
  subst hm
  have g := mon_md h.1 h.2.1 h.2.2.1 h.2.2.2
  have b1 := h.1
  have b2 := h.2.1
  have b3 := h.2.2.1
  have b4 := h.2.2.2
  have H := Lib.hid h
  have G := Lib.hid g
  clear h g
  go_enter Try.func14, Try.ntmps14
  go_wp2_with fail
  refine (mayBe_yes b r H.out _).mono ?_
  rintro e w' ⟨rfl, rfl⟩
  go_wp2_with fail
  refine (mulDiv_is b r 12000000 4 _ _ (by omega) (by omega) (by omega) G.out.1 G.out.2 _).mono ?_
  rintro e w' ⟨rfl, n, rfl⟩
  rw [errv_0]
  go_wp2_with fail
  go_ret2
  exact ⟨rfl, _, rfl⟩

theorem ret3 {a b c d : Int} {v : Value} (h : a = b) (g : c = d) : Ending.returned (.tuple #[.int .i64 a, .int .i64 c, v]) = .returned (.tuple #[.int .i64 b, .int .i64 d, v]) := by rw [h, g]

theorem next_no (b r p : Int) (h : ¬ mayP b r) (w : World) :
    Calls Try.prog 15 #[.int .i64 b, .int .i64 r, .int .i64 p] w fun e w' =>
      e = .returned (.tuple #[.int .i64 0, .int .i64 0, .iface 27 (.int .i64 1)]) ∧ w' = w := by
  have H := Lib.hid h
  clear h
  go_enter Try.func15, Try.ntmps15
  go_wp2_with fail
  refine (month_no b r H.out _).mono ?_
  rintro e w' ⟨rfl, rfl⟩
  go_wp2_with fail
  go_ret3
  exact ⟨rfl, rfl⟩

theorem next_neg (b r p : Int) (h : mayP b r) (hp : p < 0) (w : World) :
    Calls Try.prog 15 #[.int .i64 b, .int .i64 r, .int .i64 p] w fun e w' =>
      e = .returned (.tuple #[.int .i64 0, .int .i64 0, .iface 27 (.int .i64 1)]) ∧ ∃ n, w' = World.drewN w n := by
  have H := Lib.hid h
  clear h
  go_enter Try.func15, Try.ntmps15
  go_wp2_with fail
  refine (month_yes b r _ H.out rfl _).mono ?_
  rintro e w' ⟨rfl, n, rfl⟩
  go_wp2_with fail
  go_ret3
  exact ⟨rfl, _, rfl⟩

/-- what Next tells, out of a month's interest -/
theorem next_walk (b r p m : Int) (h : mayP b r) (hm : Hid (mon b r = m)) (m0 : 0 ≤ m) (m1 : m ≤ 250000000001) (hp : 0 ≤ p) (w : World) :
    Calls Try.prog 15 #[.int .i64 b, .int .i64 r, .int .i64 p] w fun e w' =>
      e = (if b + m < p then .returned (.tuple #[.int .i64 0, .int .i64 m, .nilIface]) else if 10000000000000 < b + m - p then
        .returned (.tuple #[.int .i64 0, .int .i64 0, .iface 27 (.int .i64 3)]) else .returned (.tuple #[.int .i64 (b + m - p), .int .i64 m, .nilIface])) ∧ ∃ n, w' = World.drewN w n := by
  have b1 := h.1
  have b2 := h.2.1
  have H := Lib.hid h
  clear h
  by_cases c : b + m < p
  · rw [if_pos c]
    go_enter Try.func15, Try.ntmps15
    go_wp2_with fail
    refine (month_yes b r m H.out hm.out _).mono ?_
    rintro e w' ⟨rfl, n, rfl⟩
    go_wp2_with fail
    go_ret3
    exact ⟨ret3 (by omega) rfl, _, rfl⟩
  · rw [if_neg c]
    by_cases d : 10000000000000 < b + m - p
    · rw [if_pos d]
      go_enter Try.func15, Try.ntmps15
      go_wp2_with fail
      refine (month_yes b r m H.out hm.out _).mono ?_
      rintro e w' ⟨rfl, n, rfl⟩
      go_wp2_with fail
      go_ret3
      exact ⟨rfl, _, rfl⟩
    · rw [if_neg d]
      go_enter Try.func15, Try.ntmps15
      go_wp2_with fail
      refine (month_yes b r m H.out hm.out _).mono ?_
      rintro e w' ⟨rfl, n, rfl⟩
      go_wp2_with fail
      go_ret3
      exact ⟨ret3 (by omega) rfl, _, rfl⟩

theorem mon_room {b r : Int} (h : mayP b r) : 0 ≤ mon b r ∧ mon b r ≤ 250000000001 := by
  obtain ⟨h1, h2, h3, h4⟩ := h
  have := mon_bound h1 h3 h4
  omega

theorem next_over (b r p : Int) (h : mayP b r) (hp : 0 ≤ p) (ho : 10000000000000 < nxt b r p) (w : World) :
    Calls Try.prog 15 #[.int .i64 b, .int .i64 r, .int .i64 p] w fun e w' =>
      e = .returned (.tuple #[.int .i64 0, .int .i64 0, .iface 27 (.int .i64 3)]) ∧ ∃ n, w' = World.drewN w n := by
  refine (next_walk b r p _ h (Lib.hid rfl) (mon_room h).1 (mon_room h).2 hp w).mono fun e w' ⟨he, hw⟩ => ⟨?_, hw⟩
  unfold nxt at ho
  split at ho
  · omega
  · rw [he, if_neg (by omega), if_pos (by omega)]

theorem next_yes (b r p m x : Int) (h : mayP b r) (hp : 0 ≤ p) (ho : nxt b r p ≤ 10000000000000) (hm : mon b r = m) (hx : nxt b r p = x) (w : World) :
    Calls Try.prog 15 #[.int .i64 b, .int .i64 r, .int .i64 p] w fun e w' =>
      e = .returned (.tuple #[.int .i64 x, .int .i64 m, .nilIface]) ∧ ∃ n, w' = World.drewN w n := by
  subst hm hx
  refine (next_walk b r p _ h (Lib.hid rfl) (mon_room h).1 (mon_room h).2 hp w).mono fun e w' ⟨he, hw⟩ => ⟨?_, hw⟩
  rw [he]
  unfold nxt at ho ⊢
  split at ho
  · by_cases c : b + mon b r < p
    · rw [if_pos c, if_pos (by omega)]
    · rw [if_neg c, if_neg (by omega), if_pos (by omega)]
      exact ret3 (by omega) rfl
  · rw [if_neg (by omega), if_neg (by omega), if_neg (by omega)]

/-! ### what is left behind so many months -/

/-- may be asked of so many months? -/
def leftMay (b r p n : Int) : Prop := mayP b r ∧ 0 ≤ p ∧ 0 ≤ n ∧ n ≤ 480

set_option maxHeartbeats 400000 in
theorem left_no (b r p n : Int) (h : ¬ leftMay b r p n) (w : World) :
    Calls Try.prog 19 #[.int .i64 b, .int .i64 r, .int .i64 p, .int .i64 n] w fun e w' => e = .returned (.tuple #[.int .i64 0, .iface 27 (.int .i64 1)]) ∧ w' = w := by
  by_cases hm : mayP b r
  · have H := Lib.hid hm
    have hn : ¬ (0 ≤ p ∧ 0 ≤ n ∧ n ≤ 480) := fun hc => h ⟨hm, hc⟩
    clear h hm
    by_cases c1 : p < 0
    · clear hn
      go_enter Try.func19, Try.ntmps19
      go_wp2_with fail
      refine (mayBe_yes b r H.out _).mono ?_
      rintro e w' ⟨rfl, rfl⟩
      go_wp2_with fail
      go_ret2
      exact ⟨rfl, rfl⟩
    · by_cases c2 : n < 0
      · clear hn
        go_enter Try.func19, Try.ntmps19
        go_wp2_with fail
        refine (mayBe_yes b r H.out _).mono ?_
        rintro e w' ⟨rfl, rfl⟩
        go_wp2_with fail
        go_ret2
        exact ⟨rfl, rfl⟩
      · have c3 : 480 < n := by omega
        clear hn
        go_enter Try.func19, Try.ntmps19
        go_wp2_with fail
        refine (mayBe_yes b r H.out _).mono ?_
        rintro e w' ⟨rfl, rfl⟩
        go_wp2_with fail
        go_ret2
        exact ⟨rfl, rfl⟩
  · have H := Lib.hid hm
    clear h hm
    go_enter Try.func19, Try.ntmps19
    go_wp2_with fail
    refine (mayBe_no b r H.out _).mono ?_
    rintro e w' ⟨rfl, rfl⟩
    go_wp2_with fail
    go_ret2
    exact ⟨rfl, rfl⟩

/-- what Left tells -/
def leftR : Option Int → Ending
  | some x => .returned (.tuple #[.int .i64 x, .nilIface])
  | none => .returned (.tuple #[.int .i64 0, .iface 27 (.int .i64 3)])

def LeftEnd (o : Option Int) (w : World) (e : Ending) (w' : World) : Prop := e = leftR o ∧ ∃ n, w' = World.drewN w n

theorem lft_over {r p b : Int} {n k : Nat} {o : Option Int} (hk : k < n) (hl : lft r p (n - k) b = o) (ho : 10000000000000 < nxt b r p) : o = none := by
  have e : n - k = (n - (k + 1)) + 1 := by omega
  rw [← hl, e, lft_succ, if_pos ho]
theorem lft_on {r p b : Int} {n k : Nat} {o : Option Int} (hk : k < n) (hl : lft r p (n - k) b = o) (ho : nxt b r p ≤ 10000000000000) : lft r p (n - (k + 1)) (nxt b r p) = o := by
  have e : n - k = (n - (k + 1)) + 1 := by omega
  rw [← hl, e, lft_succ, if_neg (by omega)]

set_option maxHeartbeats 1000000 in
theorem left_walk (b r p : Int) (n : Nat) (o : Option Int) (h : mayP b r) (hp : 0 ≤ p) (hn : n ≤ 480) (ho : Hid (lft r p n b = o)) (w : World) :
    Calls Try.prog 19 #[.int .i64 b, .int .i64 r, .int .i64 p, .int .i64 n] w (LeftEnd o w) := by
  have b1 := h.1
  have b2 := h.2.1
  have b3 := h.2.2.1
  have b4 := h.2.2.2
  have H := Lib.hid h
  clear h
  go_enter Try.func19, Try.ntmps19
  go_wp2_with fail
  refine (mayBe_yes b r H.out _).mono ?_
  rintro e w' ⟨rfl, hw⟩
  subst w'
  go_wp2_with fail
  go_loopw [0, 29] (fun v i wr => ∃ (k : Nat) (c : Int), k ≤ n ∧ i = .int .i64 k ∧ v = .int .i64 c ∧ 0 ≤ c ∧ c ≤ 10000000000000 ∧ Hid (lft r p (n - k) c = o) ∧ ∃ q, wr = World.drewN w q) (fun _ i _ => n - (intOf i).toNat)
  case atStart => exact ⟨0, b, Nat.zero_le _, rfl, rfl, b1, b2, ho, 0, rfl⟩
  case round =>
    obtain ⟨k, c, hk, rfl, rfl, c1, c2, hl, q, rfl⟩ := hrel
    have HM : Hid (mayP c r) := ⟨c1, c2, b3, b4⟩
    by_cases hlt : k < n
    · by_cases hov : 10000000000000 < nxt c r p
      · have hn := lft_over hlt hl.out hov
        subst hn
        have HO := Lib.hid hov
        clear hov
        go_wp2_with fail
        refine (next_over c r p HM.out hp HO.out _).mono ?_
        rintro e w' ⟨rfl, n, rfl⟩
        go_wp2_with fail
        go_ret2
        exact ⟨rfl, _, rfl⟩
      · have hl' := Lib.hid (lft_on hlt hl.out (by omega))
        obtain ⟨x, hx⟩ : ∃ x, nxt c r p = x := ⟨_, rfl⟩
        have hb := nxt_bound HM.out hp
        rw [hx] at hov hb hl'
        have HX := Lib.hid hx
        clear hx
        obtain ⟨hb1, -, -⟩ := hb
        go_wp2_with fail
        refine (next_yes c r p _ x HM.out hp (by rw [HX.out]; omega) rfl HX.out _).mono ?_
        rintro e w' ⟨rfl, n, rfl⟩
        go_wp2_with fail
        go_roundw
        case rel => exact ⟨k + 1, x, by omega, by go_num, rfl, hb1, by omega, hl', _, rfl⟩
        case measure => simp [intOf]; omega
    · have hk' : k = n := by omega
      subst hk'
      have : o = some c := by have := hl.out; simp [lft] at this; exact this.symm
      subst this
      go_wp2_with fail
      go_ret2
      exact ⟨rfl, _, rfl⟩
end Go.Proofs.Ytgdhfbjpedikhaa
