/- The contracts of rate.Left, rate.paysOff and rate.Level, and the examples at the head of layer 2's statements. -/
import Derived.Test.YtgdhfbjpedikhaaRate
namespace Go.Proofs.Ytgdhfbjpedikhaa
open Go Go.RowKit
set_option linter.unusedVariables false

theorem left_yes (b r p n x : Int) (h : mayP b r) (hp : 0 ≤ p) (hn : 0 ≤ n) (hn' : n ≤ 480) (ho : lft r p n.toNat b = some x) (w : World) :
    Calls Try.prog 19 #[.int .i64 b, .int .i64 r, .int .i64 p, .int .i64 n] w fun e w' => e = .returned (.tuple #[.int .i64 x, .nilIface]) ∧ ∃ n, w' = World.drewN w n := by
  have e : ((n.toNat : Nat) : Int) = n := by omega
  have := left_walk b r p n.toNat (some x) h hp (by omega) (Lib.hid ho) w
  rw [e] at this
  exact this
theorem left_over (b r p n : Int) (h : mayP b r) (hp : 0 ≤ p) (hn : 0 ≤ n) (hn' : n ≤ 480) (ho : lft r p n.toNat b = none) (w : World) :
    Calls Try.prog 19 #[.int .i64 b, .int .i64 r, .int .i64 p, .int .i64 n] w fun e w' => e = .returned (.tuple #[.int .i64 0, .iface 27 (.int .i64 3)]) ∧ ∃ n, w' = World.drewN w n := by
  have e : ((n.toNat : Nat) : Int) = n := by omega
  have := left_walk b r p n.toNat none h hp (by omega) (Lib.hid ho) w
  rw [e] at this
  exact this

theorem paysOff_any (b r p n : Int) (h : mayP b r) (hp : 0 ≤ p) (hn : 0 ≤ n) (hn' : n ≤ 480) (v : Bool) (hv : paysQ b r p n.toNat = v) (w : World) :
    Calls Try.prog 33 #[.int .i64 b, .int .i64 r, .int .i64 p, .int .i64 n] w fun e w' => e = .returned (.bool v) ∧ ∃ n, w' = World.drewN w n := by
  subst hv
  cases ho : lft r p n.toNat b with
  | none =>
    have e : paysQ b r p n.toNat = false := by simp [paysQ, paysP, ho]
    rw [e]
    have H := Lib.hid h
    have HO := Lib.hid ho
    clear h ho e
    go_enter Try.func33, Try.ntmps33
    go_wp2_with fail
    refine (left_over b r p n H.out hp hn hn' HO.out _).mono ?_
    rintro e w' ⟨rfl, n, rfl⟩
    go_wp2_with fail
    go_ret
    exact ⟨rfl, _, rfl⟩
  | some x =>
    have H := Lib.hid h
    have HO := Lib.hid ho
    by_cases c : x = 0
    · have e : paysQ b r p n.toNat = true := by simp [paysQ, paysP, ho, c]
      rw [e]
      have c' : (x == 0) = true := by simpa using c
      clear h ho e c
      go_enter Try.func33, Try.ntmps33
      go_wp2_with fail
      refine (left_yes b r p n x H.out hp hn hn' HO.out _).mono ?_
      rintro e w' ⟨rfl, n, rfl⟩
      go_wp2_with fail
      go_ret
      exact ⟨rfl, _, rfl⟩
    · have e : paysQ b r p n.toNat = false := by simp [paysQ, paysP, ho, c]
      rw [e]
      have c' : (x == 0) = false := by simpa using c
      clear h ho e c
      go_enter Try.func33, Try.ntmps33
      go_wp2_with fail
      refine (left_yes b r p n x H.out hp hn hn' HO.out _).mono ?_
      rintro e w' ⟨rfl, n, rfl⟩
      go_wp2_with fail
      go_ret
      exact ⟨rfl, _, rfl⟩

theorem paysQ_yes {b r p : Int} {n : Nat} (h : paysP b r p n) : paysQ b r p n = true := by simpa [paysQ] using h
theorem paysQ_no {b r p : Int} {n : Nat} (h : ¬ paysP b r p n) : paysQ b r p n = false := by simpa [paysQ] using h

set_option maxHeartbeats 400000 in
theorem level_no (b r n : Int) (h : ¬ (mayP b r ∧ 1 ≤ n ∧ n ≤ 480)) (w : World) :
    Calls Try.prog 21 #[.int .i64 b, .int .i64 r, .int .i64 n] w fun e w' => e = .returned (.tuple #[.int .i64 0, .iface 27 (.int .i64 1)]) ∧ ∃ n, w' = World.drewN w n := by
  by_cases hm : mayP b r
  · have H := Lib.hid hm
    have hn : ¬ (1 ≤ n ∧ n ≤ 480) := fun hc => h ⟨hm, hc⟩
    clear h hm
    by_cases c1 : n < 1
    · clear hn
      go_enter Try.func21, Try.ntmps21
      go_wp2_with fail
      refine (month_yes b r _ H.out rfl _).mono ?_
      rintro e w' ⟨rfl, n, rfl⟩
      go_wp2_with fail
      go_ret2
      exact ⟨rfl, _, rfl⟩
    · have c2 : 480 < n := by omega
      clear hn
      go_enter Try.func21, Try.ntmps21
      go_wp2_with fail
      refine (month_yes b r _ H.out rfl _).mono ?_
      rintro e w' ⟨rfl, n, rfl⟩
      go_wp2_with fail
      go_ret2
      exact ⟨rfl, _, rfl⟩
  · have H := Lib.hid hm
    clear h hm
    go_enter Try.func21, Try.ntmps21
    go_wp2_with fail
    refine (month_no b r H.out _).mono ?_
    rintro e w' ⟨rfl, rfl⟩
    go_wp2_with fail
    go_ret2
    exact ⟨rfl, 0, rfl⟩

def LevelEnd (b r : Int) (n : Nat) (w : World) (e : Ending) (w' : World) : Prop :=
  (∃ p, e = .returned (.tuple #[.int .i64 p, .nilIface]) ∧ Least b r n p) ∧ ∃ n, w' = World.drewN w n

set_option maxHeartbeats 1000000 in
theorem level_walk (b r n s m : Int) (h : mayP b r) (hn : 1 ≤ n) (hn' : n ≤ 480) (hs : Hid (mdV b 1 n 2 = s ∧ mdE b 1 n 2 = 0)) (hm : Hid (mon b r = m)) (m0 : 0 ≤ m) (m1 : m ≤ 250000000001)
    (s0 : 0 ≤ s) (s1 : s ≤ 10000000000001) (hse : Hid (Search b r n.toNat s (s + m))) (w : World) :
    Calls Try.prog 21 #[.int .i64 b, .int .i64 r, .int .i64 n] w (LevelEnd b r n.toNat w) := by
  have b1 := h.1
  have b2 := h.2.1
  have H := Lib.hid h
  clear h
  go_enter Try.func21, Try.ntmps21
  go_wp2_with fail
  refine (month_yes b r m H.out hm.out _).mono ?_
  rintro e w' ⟨rfl, q, rfl⟩
  go_wp2_with fail
  refine (mulDiv_is b 1 n 2 s 0 (by omega) (by omega) (by omega) hs.out.1 hs.out.2 _).mono ?_
  rintro e w' ⟨rfl, q2, rfl⟩
  rw [errv_0]
  go_wp2_with fail
  go_loopw [11, 12] (fun x y wr => ∃ (l u : Int), x = .int .i64 l ∧ y = .int .i64 u ∧ 0 ≤ l ∧ l ≤ u ∧ u ≤ 20250000000002 ∧ Hid (Search b r n.toNat l u) ∧ ∃ q, wr = World.drewN w q) (fun x y _ => (intOf y - intOf x).toNat)
  case atStart => exact ⟨s, s + m, rfl, rfl, by omega, by omega, by omega, hse, _, rfl⟩
  case round =>
    obtain ⟨l, u, rfl, rfl, l0, l1, u1, hl, q3, rfl⟩ := hrel
    by_cases hlt : l < u
    · by_cases hp : paysP b r (l + (u - l) / 2) n.toNat
      · have HN := Lib.hid (hl.out.yes (m := l + (u - l) / 2) (by omega) (by omega) hp)
        have HP := Lib.hid (paysQ_yes hp)
        clear hp
        go_wp2_with fail
        refine (paysOff_any b r (l + (u - l) / 2) n H.out (by omega) (by omega) hn' true HP.out _).mono ?_
        rintro e w' ⟨rfl, q4, rfl⟩
        go_wp2_with fail
        go_roundw
        case rel => exact ⟨l, l + (u - l) / 2, rfl, rfl, l0, by omega, by omega, HN, _, rfl⟩
        case measure => simp [intOf]; omega
      · have HN := Lib.hid (hl.out.no H.out (m := l + (u - l) / 2) (by omega) (by omega) hp)
        have HP := Lib.hid (paysQ_no hp)
        clear hp
        go_wp2_with fail
        refine (paysOff_any b r (l + (u - l) / 2) n H.out (by omega) (by omega) hn' false HP.out _).mono ?_
        rintro e w' ⟨rfl, q4, rfl⟩
        go_wp2_with fail
        go_roundw
        case rel => exact ⟨l + (u - l) / 2 + 1, u, rfl, rfl, by omega, by omega, by omega, HN, _, rfl⟩
        case measure => simp [intOf]; omega
    · have HD := Lib.hid (hl.out.done hlt)
      go_wp2_with fail
      go_ret2
      exact ⟨⟨l, rfl, HD.out⟩, _, rfl⟩

theorem level_yes (b r n : Int) (h : mayP b r) (hn : 1 ≤ n) (hn' : n ≤ 480) (w : World) :
    Calls Try.prog 21 #[.int .i64 b, .int .i64 r, .int .i64 n] w fun e w' => ∃ p, e = .returned (.tuple #[.int .i64 p, .nilIface]) ∧ Least b r n.toNat p ∧ ∃ n, w' = World.drewN w n := by
  obtain ⟨s, e1, e2, s0, s1, s2, s3⟩ := share_md h.1 h.2.1 hn hn'
  have e : ((n.toNat : Nat) : Int) = n := by omega
  have hse := Search.start (n := n.toNat) h s0 s1 (by rw [e]; exact s2) (by rw [e]; exact s3)
  exact (level_walk b r n s _ h hn hn' (Lib.hid ⟨e1, e2⟩) (Lib.hid rfl) (mon_room h).1 (mon_room h).2 s0 s1 (Lib.hid hse) w).mono fun e w' ⟨⟨p, he, hl⟩, hw⟩ => ⟨p, he, hl, hw⟩

theorem least_up {p : Int} (h : Least 1200 0 12 p) : p = 100 := by
  refine h.one (q := 100) ⟨by omega, by omega, by decide +kernel, fun q hq hq' hp => ?_⟩
  have := pays_mono (b := 1200) (r := 0) (p := q) (q := 99) (n := 12) (by unfold mayP; omega) hq (by omega) hp
  revert this
  decide +kernel

set_option maxHeartbeats 400000 in
theorem up02_any (w : World) : Calls Try.prog 13 #[] w fun e w' => e = .returned (.bool true) ∧ ∃ n, w' = World.drewN w n := by
  go_enter Try.func13, Try.ntmps13
  go_wp2_with fail
  refine (month_yes 20000000 60000 100000 (by unfold mayP; omega) (by decide +kernel) _).mono ?_
  rintro e w' ⟨rfl, n, rfl⟩
  go_wp2_with fail
  refine (level_yes 1200 0 12 (by unfold mayP; omega) (by omega) (by omega) _).mono ?_
  rintro e w' ⟨p, rfl, hl, n, rfl⟩
  obtain rfl := least_up hl
  clear hl
  go_wp2_with fail
  go_ret
  exact ⟨rfl, _, rfl⟩
end Go.Proofs.Ytgdhfbjpedikhaa
