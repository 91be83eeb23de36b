/- math/bits.Div64: a contract, walked. -/
import Derived.Test.YtpddnmkoiplmkaaDoorShelf
import Derived.Test.YtpddnmkoiplmkaaDoorNum
import Derived.WalkKit
import Derived.ProofKit
import Derived.LoopTactic
import Derived.RegionTactic
import Derived.Deep.LoopGhost
import Derived.Lib.ItoaNum
import Derived.Deep.QuietTactic
import Derived.BigQuiet
import Derived.Lib.Hide
import Derived.Deep.Draws
namespace Go.Proofs.YtpddnmkoiplmkaaDoor.Div
open Go Go.RowKit Go.Lib
set_option linter.unusedVariables false

set_option maxHeartbeats 1000000 in
theorem low (lo y : Nat) (hlo : lo < 18446744073709551616) (hy : y < 18446744073709551616) (h0 : 0 < y) (w : World) :
    Calls Tryd.prog 35 #[.int .u64 0, .int .u64 lo, .int .u64 y] w fun e w' => e = .returned (.tuple #[.int .u64 ((lo : Int) / (y : Int)), .int .u64 ((lo : Int) % (y : Int))]) ∧ ∃ n, w' = World.drewN w n := by
  have hy1 : (1 : Int) ≤ (y : Int) := by omega
  have hy2 : ((y : Int) == 0) = false := by simp; omega
  have hq : IntKind.u64.wrap ((lo : Int) / (y : Int)) = (lo : Int) / (y : Int) := by
    have h : lo / y ≤ lo := Nat.div_le_self _ _
    rw [← Int.natCast_ediv]
    generalize lo / y = q at *
    exact IntWalk.u64_in _ (by omega)
  go_enter Tryd.func35, Tryd.ntmps35
  go_wp2
  go_quiet (fail)
  go_wp2
  go_ret2
  exact ⟨rfl, _, rfl⟩

set_option maxRecDepth 100000 in
set_option maxHeartbeats 2000000 in
/-- the walk, its numbers given by name -/
theorem walk (hi lo y s Y n1 n0 U L X1 X0 Q V Q' M : Nat) (D D' : Int) (hlo : lo < 18446744073709551616) (hy : y < 18446744073709551616) (h0 : 0 < hi) (h1 : hi < y)
    (E1 : IntKind.u64.wrap (64 - ((Lib.bitLen y : Nat) : Int)) = (s : Int))
    (E2 : IntKind.u64.wrap ((y : Int) * 2 ^ min s 64) = (Y : Int))
    (E3 : (Y : Int) / 4294967296 = (n1 : Int))
    (E4 : bits .and .u64 (Y : Int) 4294967295 = (n0 : Int))
    (E5 : bits .or .u64 (IntKind.u64.wrap ((hi : Int) * 2 ^ min s 64)) ((lo : Int) / 2 ^ min (IntKind.u64.wrap (64 - (s : Int))).toNat 64) = (U : Int))
    (E6 : IntKind.u64.wrap ((lo : Int) * 2 ^ min s 64) = (L : Int))
    (E7 : (L : Int) / 4294967296 = (X1 : Int))
    (E8 : bits .and .u64 (L : Int) 4294967295 = (X0 : Int))
    (hn1 : 2147483648 ≤ n1) (hn1' : n1 < 4294967296) (hn0 : n0 < 4294967296) (hX1 : X1 < 4294967296) (hX0 : X0 < 4294967296)
    (hU : U < n1 * 4294967296 + n0) (hV : V < n1 * 4294967296 + n0)
    (q1 : (U : Int) / (n1 : Int) = (Q : Int)) (p1 : Q * n1 ≤ U) (m1 : IntKind.u64.wrap ((Q : Int) * (n1 : Int)) = ((Q * n1 : Nat) : Int))
    (s1 : Num.Dig n1 n0 U X1 Q (U - Q * n1)) (d1 : D = (((U * 4294967296 + X1) / (n1 * 4294967296 + n0) : Nat) : Int)) (hD0 : 0 ≤ D) (hD : D < 4294967296)
    (v1 : IntKind.u64.wrap (IntKind.u64.wrap (IntKind.u64.wrap ((U : Int) * 4294967296) + (X1 : Int)) - IntKind.u64.wrap (D * (Y : Int))) = (V : Int))
    (q2 : (V : Int) / (n1 : Int) = (Q' : Int)) (p2 : Q' * n1 ≤ V) (m2 : IntKind.u64.wrap ((Q' : Int) * (n1 : Int)) = ((Q' * n1 : Nat) : Int))
    (s2 : Num.Dig n1 n0 V X0 Q' (V - Q' * n1)) (d2 : D' = (((V * 4294967296 + X0) / (n1 * 4294967296 + n0) : Nat) : Int)) (hD0' : 0 ≤ D') (hD' : D' < 4294967296)
    (v2 : IntKind.u64.wrap (IntKind.u64.wrap (IntKind.u64.wrap ((V : Int) * 4294967296) + (X0 : Int)) - IntKind.u64.wrap (D' * (Y : Int))) / 2 ^ min s 64 = (M : Int))
    (w : World) :
    Calls Tryd.prog 35 #[.int .u64 hi, .int .u64 lo, .int .u64 y] w fun e w' => e = .returned (.tuple #[.int .u64 (D * 4294967296 + D'), .int .u64 (M : Int)]) ∧ w' = w := by
  have hy1 : (1 : Int) ≤ (y : Int) := by omega
  have hn1'' : (1 : Int) ≤ (n1 : Int) := by omega
  have hy2 : ((y : Int) == 0) = false := by simp; omega
  have hh2 : ((hi : Int) == 0) = false := by simp; omega
  have hyh : ¬ (y : Int) ≤ (hi : Int) := by omega
  have hU' : U < 18446744073709551616 := by omega
  have hV' : V < 18446744073709551616 := by omega
  have b1 : Q ≤ 4294967297 := s1.2.2.1
  have b2 : Q' ≤ 4294967297 := s2.2.2.1
  have HD : Hid (D = (((U * 4294967296 + X1) / (n1 * 4294967296 + n0) : Nat) : Int)) := Lib.hid d1
  have HD' : Hid (D' = (((V * 4294967296 + X0) / (n1 * 4294967296 + n0) : Nat) : Int)) := Lib.hid d2
  clear d1 d2
  generalize hP : Q * n1 = P at *
  generalize hP' : Q' * n1 = P' at *
  clear hP hP'
  go_enter Tryd.func35, Tryd.ntmps35
  go_wp2_with (go_at_call 43; refine (Tryd.bits_LeadingZeros64 _ _ (by omega) (by omega)).mono ?_; rintro e w' ⟨rfl, rfl⟩)
  go_loop [15, 16] (fun q r => ∃ qi ri : Int, q = .int .u64 qi ∧ r = .int .u64 ri ∧ 0 ≤ qi ∧ 0 ≤ ri ∧ Num.Dig n1 n0 U X1 qi.toNat ri.toNat) (fun q _ => (RowKit.intOf q).toNat)
  case atStart => exact ⟨Q, (U - P : Nat), rfl, by congr 1; omega, by omega, by omega, by simpa using s1⟩
  case round =>
    obtain ⟨q, r, rfl, rfl, hq0, hr0, hd⟩ := hrel
    have hd1 : r < 4294967296 := by have := hd.2.1; omega
    have hd2 : q ≤ 4294967297 := by have := hd.2.2.1; omega
    have hps := Num.prod_small hd.2.2.1 hn0
    obtain ⟨m, hm⟩ : ∃ m : Int, m = q * (n0 : Int) := ⟨_, rfl⟩
    have hm' : m = ((q.toNat * n0 : Nat) : Int) := by rw [hm, Int.natCast_mul, Int.toNat_of_nonneg hq0]
    have F1 : IntKind.u64.wrap (q * (n0 : Int)) = m := by
      rw [← hm, IntKind.wrap_u64]; omega
    have HM : Hid (m = ((q.toNat * n0 : Nat) : Int)) := Lib.hid hm'
    clear hps hm hm'
    by_cases c : 4294967296 ≤ q ∨ 4294967296 * r + (X1 : Int) < m
    · obtain ⟨g1, g2, g3⟩ := hd.go_on hq0 hr0 hn1 hn0 hU hX1 HM.out c
      by_cases c3 : r + (n1 : Int) < 4294967296
      · have hd' := g2 c3
        clear g2 g3 hd HM
        by_cases c1 : 4294967296 ≤ q
        · go_wp2
          go_round
          case rel => exact ⟨q - 1, r + n1, rfl, rfl, by omega, by omega, hd'⟩
          case measure => simp [RowKit.intOf]; omega
        · have c2 : 4294967296 * r + (X1 : Int) < m := by omega
          clear c
          go_wp2
          go_round
          case rel => exact ⟨q - 1, r + n1, rfl, rfl, by omega, by omega, hd'⟩
          case measure => simp [RowKit.intOf]; omega
      · have hq := g3 (by omega)
        rw [← HD.out] at hq
        subst hq
        clear g2 g3 hd HM
        by_cases c1 : 4294967296 ≤ D + 1
        · go_wp2
          go_loop [16, 18] (fun r q => ∃ qi ri : Int, q = .int .u64 qi ∧ r = .int .u64 ri ∧ 0 ≤ qi ∧ 0 ≤ ri ∧ Num.Dig n1 n0 V X0 qi.toNat ri.toNat) (fun _ q => (RowKit.intOf q).toNat)
          case atStart => exact ⟨Q', (V - P' : Nat), rfl, by congr 1; omega, by omega, by omega, by simpa using s2⟩
          case round =>
            clear c1 hd1 F1
            obtain ⟨p, t, rfl, rfl, hq0, hr0, hd⟩ := hrel
            have hd1 : t < 4294967296 := by have := hd.2.1; omega
            have hd2 : p ≤ 4294967297 := by have := hd.2.2.1; omega
            have hps := Num.prod_small hd.2.2.1 hn0
            obtain ⟨k, hm⟩ : ∃ k : Int, k = p * (n0 : Int) := ⟨_, rfl⟩
            have hm' : k = ((p.toNat * n0 : Nat) : Int) := by rw [hm, Int.natCast_mul, Int.toNat_of_nonneg hq0]
            have F1 : IntKind.u64.wrap (p * (n0 : Int)) = k := by
              rw [← hm, IntKind.wrap_u64]; omega
            have HM : Hid (k = ((p.toNat * n0 : Nat) : Int)) := Lib.hid hm'
            clear hps hm hm'
            by_cases c : 4294967296 ≤ p ∨ 4294967296 * t + (X0 : Int) < k
            · obtain ⟨g1, g2, g3⟩ := hd.go_on hq0 hr0 hn1 hn0 hV hX0 HM.out c
              by_cases c3 : t + (n1 : Int) < 4294967296
              · have hd' := g2 c3
                clear g2 g3 hd HM
                by_cases c1 : 4294967296 ≤ p
                · go_wp2
                  go_round
                  case rel => exact ⟨p - 1, t + n1, rfl, rfl, by omega, by omega, hd'⟩
                  case measure => simp [RowKit.intOf]; omega
                · have c2 : 4294967296 * t + (X0 : Int) < k := by omega
                  clear c
                  go_wp2
                  go_round
                  case rel => exact ⟨p - 1, t + n1, rfl, rfl, by omega, by omega, hd'⟩
                  case measure => simp [RowKit.intOf]; omega
              · have hq := g3 (by omega)
                rw [← HD'.out] at hq
                subst hq
                clear g2 g3 hd HM
                by_cases c1 : 4294967296 ≤ D' + 1
                · go_wp2
                  go_ret2
                  exact ⟨rfl, rfl⟩
                · have c2 : 4294967296 * t + (X0 : Int) < k := by omega
                  clear c
                  go_wp2
                  go_ret2
                  exact ⟨rfl, rfl⟩
            · have hq := hd.ends hq0 hr0 hn1 HM.out (by omega)
              rw [← HD'.out] at hq
              have hq' := hq.symm
              subst hq'
              have c1 : ¬ 4294967296 ≤ D' := by omega
              have c2 : ¬ 4294967296 * t + (X0 : Int) < k := by omega
              clear hd HM c
              go_wp2
              go_ret2
              exact ⟨rfl, rfl⟩
        · have c2 : 4294967296 * r + (X1 : Int) < m := by omega
          clear c
          go_wp2
          go_loop [16, 18] (fun r q => ∃ qi ri : Int, q = .int .u64 qi ∧ r = .int .u64 ri ∧ 0 ≤ qi ∧ 0 ≤ ri ∧ Num.Dig n1 n0 V X0 qi.toNat ri.toNat) (fun _ q => (RowKit.intOf q).toNat)
          case atStart => exact ⟨Q', (V - P' : Nat), rfl, by congr 1; omega, by omega, by omega, by simpa using s2⟩
          case round =>
            clear c1 hd1 F1
            obtain ⟨p, t, rfl, rfl, hq0, hr0, hd⟩ := hrel
            have hd1 : t < 4294967296 := by have := hd.2.1; omega
            have hd2 : p ≤ 4294967297 := by have := hd.2.2.1; omega
            have hps := Num.prod_small hd.2.2.1 hn0
            obtain ⟨k, hm⟩ : ∃ k : Int, k = p * (n0 : Int) := ⟨_, rfl⟩
            have hm' : k = ((p.toNat * n0 : Nat) : Int) := by rw [hm, Int.natCast_mul, Int.toNat_of_nonneg hq0]
            have F1 : IntKind.u64.wrap (p * (n0 : Int)) = k := by
              rw [← hm, IntKind.wrap_u64]; omega
            have HM : Hid (k = ((p.toNat * n0 : Nat) : Int)) := Lib.hid hm'
            clear hps hm hm'
            by_cases c : 4294967296 ≤ p ∨ 4294967296 * t + (X0 : Int) < k
            · obtain ⟨g1, g2, g3⟩ := hd.go_on hq0 hr0 hn1 hn0 hV hX0 HM.out c
              by_cases c3 : t + (n1 : Int) < 4294967296
              · have hd' := g2 c3
                clear g2 g3 hd HM
                by_cases c1 : 4294967296 ≤ p
                · go_wp2
                  go_round
                  case rel => exact ⟨p - 1, t + n1, rfl, rfl, by omega, by omega, hd'⟩
                  case measure => simp [RowKit.intOf]; omega
                · have c2 : 4294967296 * t + (X0 : Int) < k := by omega
                  clear c
                  go_wp2
                  go_round
                  case rel => exact ⟨p - 1, t + n1, rfl, rfl, by omega, by omega, hd'⟩
                  case measure => simp [RowKit.intOf]; omega
              · have hq := g3 (by omega)
                rw [← HD'.out] at hq
                subst hq
                clear g2 g3 hd HM
                by_cases c1 : 4294967296 ≤ D' + 1
                · go_wp2
                  go_ret2
                  exact ⟨rfl, rfl⟩
                · have c2 : 4294967296 * t + (X0 : Int) < k := by omega
                  clear c
                  go_wp2
                  go_ret2
                  exact ⟨rfl, rfl⟩
            · have hq := hd.ends hq0 hr0 hn1 HM.out (by omega)
              rw [← HD'.out] at hq
              have hq' := hq.symm
              subst hq'
              have c1 : ¬ 4294967296 ≤ D' := by omega
              have c2 : ¬ 4294967296 * t + (X0 : Int) < k := by omega
              clear hd HM c
              go_wp2
              go_ret2
              exact ⟨rfl, rfl⟩
    · have hq := hd.ends hq0 hr0 hn1 HM.out (by omega)
      rw [← HD.out] at hq
      have hq' := hq.symm
      subst hq'
      have c1 : ¬ 4294967296 ≤ D := by omega
      have c2 : ¬ 4294967296 * r + (X1 : Int) < m := by omega
      clear hd HM c
      go_wp2
      go_loop [16, 18] (fun r q => ∃ qi ri : Int, q = .int .u64 qi ∧ r = .int .u64 ri ∧ 0 ≤ qi ∧ 0 ≤ ri ∧ Num.Dig n1 n0 V X0 qi.toNat ri.toNat) (fun _ q => (RowKit.intOf q).toNat)
      case atStart => exact ⟨Q', (V - P' : Nat), rfl, by congr 1; omega, by omega, by omega, by simpa using s2⟩
      case round =>
        clear c1 hd1 F1
        obtain ⟨p, t, rfl, rfl, hq0, hr0, hd⟩ := hrel
        have hd1 : t < 4294967296 := by have := hd.2.1; omega
        have hd2 : p ≤ 4294967297 := by have := hd.2.2.1; omega
        have hps := Num.prod_small hd.2.2.1 hn0
        obtain ⟨k, hm⟩ : ∃ k : Int, k = p * (n0 : Int) := ⟨_, rfl⟩
        have hm' : k = ((p.toNat * n0 : Nat) : Int) := by rw [hm, Int.natCast_mul, Int.toNat_of_nonneg hq0]
        have F1 : IntKind.u64.wrap (p * (n0 : Int)) = k := by
          rw [← hm, IntKind.wrap_u64]; omega
        have HM : Hid (k = ((p.toNat * n0 : Nat) : Int)) := Lib.hid hm'
        clear hps hm hm'
        by_cases c : 4294967296 ≤ p ∨ 4294967296 * t + (X0 : Int) < k
        · obtain ⟨g1, g2, g3⟩ := hd.go_on hq0 hr0 hn1 hn0 hV hX0 HM.out c
          by_cases c3 : t + (n1 : Int) < 4294967296
          · have hd' := g2 c3
            clear g2 g3 hd HM
            by_cases c1 : 4294967296 ≤ p
            · go_wp2
              go_round
              case rel => exact ⟨p - 1, t + n1, rfl, rfl, by omega, by omega, hd'⟩
              case measure => simp [RowKit.intOf]; omega
            · have c2 : 4294967296 * t + (X0 : Int) < k := by omega
              clear c
              go_wp2
              go_round
              case rel => exact ⟨p - 1, t + n1, rfl, rfl, by omega, by omega, hd'⟩
              case measure => simp [RowKit.intOf]; omega
          · have hq := g3 (by omega)
            rw [← HD'.out] at hq
            subst hq
            clear g2 g3 hd HM
            by_cases c1 : 4294967296 ≤ D' + 1
            · go_wp2
              go_ret2
              exact ⟨rfl, rfl⟩
            · have c2 : 4294967296 * t + (X0 : Int) < k := by omega
              clear c
              go_wp2
              go_ret2
              exact ⟨rfl, rfl⟩
        · have hq := hd.ends hq0 hr0 hn1 HM.out (by omega)
          rw [← HD'.out] at hq
          have hq' := hq.symm
          subst hq'
          have c1 : ¬ 4294967296 ≤ D' := by omega
          have c2 : ¬ 4294967296 * t + (X0 : Int) < k := by omega
          clear hd HM c
          go_wp2
          go_ret2
          exact ⟨rfl, rfl⟩

theorem wrapM (a : Int) : IntKind.u64.wrap a = a % 18446744073709551616 := IntKind.wrap_u64 a

theorem round_sub {U x k r : Nat} (h : U * 4294967296 + x = k + r) (hr : r < 18446744073709551616) :
    IntKind.u64.wrap (IntKind.u64.wrap (IntKind.u64.wrap ((U : Int) * 4294967296) + (x : Int)) - IntKind.u64.wrap (k : Int)) = (r : Int) := by
  simp only [wrapM]
  omega

theorem high (hi lo y : Nat) (hlo : lo < 18446744073709551616) (hy : y < 18446744073709551616) (h0 : 0 < hi) (h1 : hi < y) (w : World) :
    Calls Tryd.prog 35 #[.int .u64 hi, .int .u64 lo, .int .u64 y] w fun e w' => e = .returned (.tuple #[.int .u64 (((hi * 18446744073709551616 + lo) / y : Nat) : Int), .int .u64 (((hi * 18446744073709551616 + lo) % y : Nat) : Int)]) ∧ w' = w := by
  obtain ⟨b1, b2, b3⟩ := Lib.bitLenAux_bounds 64 y hy (by omega)
  have hbl : Lib.bitLen y = Lib.bitLenAux 64 y := rfl
  rw [← hbl] at b1 b2 b3
  have b4 : Lib.bitLen y ≤ 64 := by
    refine Nat.le_of_not_lt fun h => ?_
    have : 2 ^ 64 ≤ 2 ^ (Lib.bitLen y - 1) := Nat.pow_le_pow_right (by omega) (by omega)
    have : (2 : Nat) ^ 64 = 18446744073709551616 := by decide
    omega
  obtain ⟨s, hs⟩ : ∃ s, s = 64 - Lib.bitLen y := ⟨_, rfl⟩
  have hs1 : s < 64 := by omega
  have hP : 0 < 2 ^ s := Nat.pow_pos (by omega)
  have e64 : 2 ^ s * 2 ^ (64 - s) = 18446744073709551616 := by
    rw [← Nat.pow_add, show s + (64 - s) = 64 from by omega]
  have hY1 : 9223372036854775808 ≤ y * 2 ^ s := by
    have : 2 ^ (Lib.bitLen y - 1) * 2 ^ s ≤ y * 2 ^ s := Nat.mul_le_mul_right _ b2
    rw [← Nat.pow_add, show Lib.bitLen y - 1 + s = 63 from by omega] at this
    exact this
  have hY2 : y * 2 ^ s < 18446744073709551616 := by
    have : y * 2 ^ s < 2 ^ Lib.bitLen y * 2 ^ s := Nat.mul_lt_mul_of_pos_right b3 hP
    rw [← Nat.pow_add, show Lib.bitLen y + s = 64 from by omega] at this
    exact this
  have hhi : (hi + 1) * 2 ^ s ≤ y * 2 ^ s := Nat.mul_le_mul_right _ h1
  rw [Nat.add_mul, Nat.one_mul] at hhi
  have hR : lo / 2 ^ (64 - s) < 2 ^ s := by
    rw [Nat.div_lt_iff_lt_mul (Nat.pow_pos (by omega)), e64]; exact hlo
  have hL : lo * 2 ^ s = lo / 2 ^ (64 - s) * 18446744073709551616 + lo * 2 ^ s % 18446744073709551616 := by
    have h := Nat.div_add_mod (lo * 2 ^ s) 18446744073709551616
    have : lo * 2 ^ s / 18446744073709551616 = lo / 2 ^ (64 - s) := by
      rw [← e64, Nat.mul_comm (2 ^ s), Nat.mul_div_mul_right _ _ hP]
    rw [this] at h
    omega
  have ep : ((2 : Int) ^ s) = ((2 ^ s : Nat) : Int) := by simp
  have em : min s 64 = s := by omega
  have ew : (IntKind.u64.wrap (64 - (s : Int))).toNat = 64 - s := by rw [wrapM]; omega
  have ew2 : min (64 - s) 64 = 64 - s := by omega
  have ep2 : ((2 : Int) ^ (64 - s)) = ((2 ^ (64 - s) : Nat) : Int) := by simp
  obtain ⟨p, hp⟩ : ∃ p, p = 2 ^ s := ⟨_, rfl⟩
  obtain ⟨p', hp'⟩ : ∃ p', p' = 2 ^ (64 - s) := ⟨_, rfl⟩
  have E5 : bits .or .u64 (IntKind.u64.wrap ((hi : Int) * 2 ^ min s 64)) ((lo : Int) / 2 ^ min (IntKind.u64.wrap (64 - (s : Int))).toNat 64) = ((hi * 2 ^ s + lo / 2 ^ (64 - s) : Nat) : Int) := by
    rw [ew, ew2, em, ep, ep2, ← Int.natCast_mul, ← Int.natCast_ediv, wrapM]
    rw [show ((hi * 2 ^ s : Nat) : Int) % 18446744073709551616 = ((hi * 2 ^ s : Nat) : Int) from by omega]
    rw [bits_or_u64_nat _ _ (by omega) (by omega), Nat.mul_comm hi, Nat.two_pow_add_eq_or_of_lt hR]
  rw [← hp] at E5 hY1 hY2 hhi hR hL ep hP e64
  rw [← hp'] at E5 hR hL e64
  obtain ⟨Y, hY⟩ : ∃ Y, Y = y * p := ⟨_, rfl⟩
  obtain ⟨H, hH⟩ : ∃ H, H = hi * p := ⟨_, rfl⟩
  obtain ⟨K, hK⟩ : ∃ K, K = lo * p := ⟨_, rfl⟩
  obtain ⟨T, hT⟩ : ∃ T, T = lo / p' := ⟨_, rfl⟩
  rw [← hY, ← hH] at hhi
  rw [← hY] at hY1 hY2
  rw [← hT] at hR hL E5
  rw [← hK] at hL
  rw [← hH] at E5
  have hn1 : 2147483648 ≤ Y / 4294967296 := by omega
  have hn1' : Y / 4294967296 < 4294967296 := by omega
  have hn0 : Y % 4294967296 < 4294967296 := by omega
  have hYe : Y / 4294967296 * 4294967296 + Y % 4294967296 = Y := by omega
  have hU : H + T < Y / 4294967296 * 4294967296 + Y % 4294967296 := by omega
  have hX1 : K % 18446744073709551616 / 4294967296 < 4294967296 := by omega
  have hX0 : K % 18446744073709551616 % 4294967296 < 4294967296 := by omega
  obtain ⟨U, hUe⟩ : ∃ U, U = H + T := ⟨_, rfl⟩
  obtain ⟨X1, hX1e⟩ : ∃ X1, X1 = K % 18446744073709551616 / 4294967296 := ⟨_, rfl⟩
  obtain ⟨X0, hX0e⟩ : ∃ X0, X0 = K % 18446744073709551616 % 4294967296 := ⟨_, rfl⟩
  rw [← hUe] at hU E5
  rw [← hX1e] at hX1
  rw [← hX0e] at hX0
  have hV : (U * 4294967296 + X1) % Y < Y := Nat.mod_lt _ (by omega)
  obtain ⟨V, hVe⟩ : ∃ V, V = (U * 4294967296 + X1) % Y := ⟨_, rfl⟩
  obtain ⟨D, hDe⟩ : ∃ D, D = (U * 4294967296 + X1) / Y := ⟨_, rfl⟩
  obtain ⟨D', hDe'⟩ : ∃ D', D' = (V * 4294967296 + X0) / Y := ⟨_, rfl⟩
  have hDm := Nat.div_add_mod (U * 4294967296 + X1) Y
  have hDm' := Nat.div_add_mod (V * 4294967296 + X0) Y
  rw [← hVe, ← hDe, Nat.mul_comm] at hDm
  rw [← hDe', Nat.mul_comm] at hDm'
  rw [← hVe] at hV
  have hM' : (V * 4294967296 + X0) % Y < Y := Nat.mod_lt _ (by omega)
  have hD : D < 4294967296 := by rw [hDe]; exact Num.dig_lt (by omega) hX1
  have hD' : D' < 4294967296 := by rw [hDe']; exact Num.dig_lt (by omega) hX0
  have Qu : U / (Y / 4294967296) * (Y / 4294967296) ≤ U := Nat.div_mul_le_self _ _
  have Qv : V / (Y / 4294967296) * (Y / 4294967296) ≤ V := Nat.div_mul_le_self _ _
  have hN : (hi * 18446744073709551616 + lo) * p = (U * 4294967296 + X1) * 4294967296 + X0 := by
    rw [Num.spread 18446744073709551616 hi lo p, ← hH, ← hK]
    exact Num.glue hL hUe hX1e hX0e
  obtain ⟨z1, z2⟩ := Num.two_digits (u := U) (x1 := X1) (x0 := X0) (y := Y) (by omega)
  rw [← hN, ← hVe, ← hDe, ← hDe', hY] at z1
  rw [← hN, ← hVe, hY] at z2
  obtain ⟨z3, z4⟩ := Num.shifted (n := hi * 18446744073709551616 + lo) (y := y) hP
  rw [z3] at z1
  rw [z2, ← hY] at z4
  have W := walk hi lo y s Y (Y / 4294967296) (Y % 4294967296) U (K % 18446744073709551616) X1 X0 (U / (Y / 4294967296)) V (V / (Y / 4294967296)) ((V * 4294967296 + X0) % Y / p) D D' hlo hy h0 h1
    (by rw [wrapM]; omega) (by rw [em, ep, ← Int.natCast_mul, ← hY, wrapM]; omega) (by omega) (Mul64.maskN Y hY2) E5 (by rw [em, ep, ← Int.natCast_mul, ← hK, wrapM]; omega) (by omega)
    (by rw [Mul64.maskN _ (by omega), hX0e]) hn1 hn1' hn0 hX1 hX0 hU (by omega)
    (Int.natCast_ediv _ _).symm Qu (by rw [← Int.natCast_mul, wrapM]; omega) (Num.Dig.start hn1 hn1' hn0 hU hX1) (by rw [hYe, hDe]) (by omega) (by omega)
    (by rw [← Int.natCast_mul]; exact round_sub hDm.symm (by omega))
    (Int.natCast_ediv _ _).symm Qv (by rw [← Int.natCast_mul, wrapM]; omega) (Num.Dig.start hn1 hn1' hn0 (by omega) hX0) (by rw [hYe, hDe']) (by omega) (by omega)
    (by rw [← Int.natCast_mul, round_sub hDm'.symm (by omega), em, ep, ← Int.natCast_ediv]) w
  refine W.mono fun e w' ⟨he, hw⟩ => ⟨?_, hw⟩
  rw [he, z1, z4]
  simp

/-- the contract -/
theorem div64 (hi lo y : Nat) (hlo : lo < 18446744073709551616) (hy : y < 18446744073709551616) (h1 : hi < y) (w : World) :
    Calls Tryd.prog 35 #[.int .u64 hi, .int .u64 lo, .int .u64 y] w fun e w' => e = .returned (.tuple #[.int .u64 (((hi * 18446744073709551616 + lo) / y : Nat) : Int), .int .u64 (((hi * 18446744073709551616 + lo) % y : Nat) : Int)]) ∧ ∃ n, w' = World.drewN w n := by
  by_cases h0 : hi = 0
  · subst h0
    refine (low lo y hlo hy h1 w).mono fun e w' ⟨he, hw⟩ => ⟨?_, hw⟩
    rw [he]
    simp
  · refine (high hi lo y hlo hy (by omega) h1 w).mono fun e w' ⟨he, hw⟩ => ⟨he, 0, hw⟩
end Go.Proofs.YtpddnmkoiplmkaaDoor.Div
