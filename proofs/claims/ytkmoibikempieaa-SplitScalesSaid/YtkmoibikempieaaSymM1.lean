/- slices' symMerge, at the places of rests, where one of the two stretches is a single one. -/
import Derived.Test.YtkmoibikempieaaSwapR
namespace Go.Proofs.Ytkmoibikempieaa
open Go Go.RowKit Go.Sort Go.Lib
set_option linter.unusedVariables false

/-- what is asked of the test of two places -/
def CmpC (N : Nat) (cb : Value) (cf : Fin (N + 1) → Fin (N + 1) → Int) (blk off sz : Nat) (w0 : World) : Prop :=
  ∀ (W : World) (dk : Array (Fin (N + 1))), dk.size = sz → SW encP w0 blk off dk W → ∀ x y : Fin (N + 1),
    Calls Try.prog 34 #[.int .i64 (x.val : Int), .int .i64 (y.val : Int), cb] W fun e w' => e = .returned (.int .i64 (cf x y)) ∧ ∃ q, w' = W.drewN q

theorem CmpC.at {N : Nat} {cb : Value} {cf : Fin (N + 1) → Fin (N + 1) → Int} {blk off sz : Nat} {w0 W : World} {dk : Array (Fin (N + 1))} (h : CmpC N cb cf blk off sz w0) (hs : dk.size = sz) (S : SW encP w0 blk off dk W) (p q : Nat) :
    ∀ n, Calls Try.prog 34 #[.int .i64 ((dk[p]!).val : Int), .int .i64 ((dk[q]!).val : Int), cb] (W.drewN n) fun e w' => e = .returned (.int .i64 (cf dk[p]! dk[q]!)) ∧ ∃ q, w' = (W.drewN n).drewN q :=
  fun n => h _ dk hs (S.drewN n) _ _

def fnV (cb : Value) : Value := .func (.func 34) #[] #[cb]

set_option maxHeartbeats 8000000 in
set_option maxRecDepth 100000 in
theorem symMerge1 {N : Nat} {tt : Fin (N + 1) → Fin (N + 1) → Prop} {pl : Fin (N + 1) → Nat} {cf : Fin (N + 1) → Fin (N + 1) → Int} (T : Tot (ltOf cf) tt pl) (blk off cap a m b : Nat) (cb : Value) (d0 d : Array (Fin (N + 1))) (w0 w : World) (R : Row1 encP w0 blk off d0) (hs : d0.size = d.size) (S : SW encP w0 blk off d w)
    (C : Hid (CmpC N cb cf blk off d.size w0)) (M : Hid (Mrg tt pl a m b d)) (hm : m = a + 1) (hsz : d.size ≤ 1000) :
    Calls Try.prog 45 #[.slice (some ⟨blk, off, none⟩) d.size cap, .int .i64 a, .int .i64 m, .int .i64 b, .func (.func 34) #[] #[cb]] w fun e w' => e = .returned (.tuple #[]) ∧ ∃ d', SW encP w0 blk off d' w' ∧ Mgd tt a b d d' := by
  have S0 : Aside (SW encP w0 blk off d w) := S
  clear S
  have hmb := M.out.mb
  have hbs := M.out.bs
  have rm : IntKind.i64.wrap ((m : Int) - (a : Int)) = 1 := by rw [IntKind.wrap_i64]; omega
  have HM : Hid (m = a + 1) := hm
  clear hm
  go_enter Try.func45, Try.ntmps45
  go_wp2
  clear rm
  go_loopg [10, 11] (b - m) (fun g vi vj wr => ∃ i j : Nat, vi = .int .i64 i ∧ vj = .int .i64 j ∧ j - i ≤ g ∧ Aside (SW encP w0 blk off d wr) ∧ Hid (FindR tt a m b i j d))
  case atStart => exact ⟨m, b, rfl, rfl, by omega, S0, FindR.start hmb⟩
  case round =>
    clear S0
    obtain ⟨i, j, rfl, rfl, hg, S1, HF⟩ := hrel
    have h1 := HF.out.mi
    have h2 := HF.out.ij
    have h3 := HF.out.jb
    have hma := HM.out
    by_cases hlt : i < j
    · have hz : (i : Int) < (j : Int) := by omega
      obtain ⟨x, hx⟩ : ∃ q, q = (i + j) / 2 := ⟨_, rfl⟩
      have rx : ((i : Int) + (j : Int)) / 2 = (x : Int) := by omega
      have px : (0 : Int) ≤ (x : Int) := by omega
      have bx : (x : Int) < (d.size : Int) := by omega
      have pa : (0 : Int) ≤ (a : Int) := by omega
      have ba : (a : Int) < (d.size : Int) := by omega
      have hc := C.out.at rfl S1.out x a
      have cx := S1.out.c1 R hs.symm x (by omega)
      have ca := S1.out.c1 R hs.symm a (by omega)
      simp only [encP] at cx ca
      have HL : Hid _ := (show ltOf cf d[x]! d[a]! = decide (cf d[x]! d[a]! < 0) from rfl)
      generalize cf d[x]! d[a]! = c at hc HL
      generalize ((d[x]!).val : Int) = vx at hc cx
      generalize ((d[a]!).val : Int) = va at hc ca
      have HX : Hid (i ≤ x ∧ x < j) := by exact ⟨by omega, by omega⟩
      have S2 : Hid (∀ n, SW encP w0 blk off d (wr.drewN n)) := fun n => S1.out.drewN n
      clear S1 hx h1 h2 h3 hma hlt
      by_cases hlc : c < 0
      · go_wp2_with fail
        go_quiet (first | (go_at_call 34; with_reducible exact Calls.quiet_of (hc _)))
        go_wp2
        go_roundg (j - (x + 1))
        case measure => have := HX.out; omega
        case rel => exact ⟨x + 1, j, by go_num, rfl, Nat.le_refl _, S2.out _, HF.out.up T M.out HX.out.1 HX.out.2 (HL.out.trans (decide_eq_true hlc))⟩
      · go_wp2_with fail
        go_quiet (first | (go_at_call 34; with_reducible exact Calls.quiet_of (hc _)))
        go_wp2
        go_roundg (x - i)
        case measure => have := HX.out; omega
        case rel => exact ⟨i, x, rfl, rfl, Nat.le_refl _, S2.out _, HF.out.down T M.out HX.out.1 HX.out.2 (HL.out.trans (decide_eq_false (by omega)))⟩
    · have hz : ¬ (i : Int) < (j : Int) := by omega
      obtain rfl : i = j := by omega
      have hmx := HM.out
      have HB : Hid (a + 1 ≤ i ∧ i ≤ b) := by exact ⟨by omega, by omega⟩
      obtain ⟨ip, hip⟩ : ∃ q, q + 1 = i := ⟨i - 1, by omega⟩
      have rip : IntKind.i64.wrap ((i : Int) - 1) = (ip : Int) := by rw [IntKind.wrap_i64]; omega
      have HI : Hid (ip = i - 1) := (show ip = i - 1 by omega)
      have hai : a ≤ ip := by omega
      clear hip h1 h2 h3 hma hlt hmx
      go_wp2
      go_loopg [13] (ip - a) (fun g vk wr2 => ∃ (k : Nat) (dk : Array (Fin (N + 1))), vk = .int .i64 k ∧ a ≤ k ∧ k ≤ ip ∧ ip - k ≤ g ∧ Aside (SW encP w0 blk off dk wr2) ∧ Hid (ShiftR a b k d dk))
      case atStart => exact ⟨a, d, rfl, Nat.le_refl _, hai, Nat.le_refl _, S1, ShiftR.start a b d⟩
      case round =>
        clear S1
        obtain ⟨k, dk, rfl, hak, hki, hg2, S1, HS⟩ := hrel
        by_cases hlt : k < ip
        · have hltz : (k : Int) < (ip : Int) := by omega
          have hsk := psize HS.out.perm
          have hib := HB.out
          have hie := HI.out
          obtain ⟨kN, hkN⟩ : ∃ q, q = k + 1 := ⟨_, rfl⟩
          have rk : IntKind.i64.wrap ((k : Int) + 1) = (kN : Int) := by rw [IntKind.wrap_i64]; omega
          have pa : (0 : Int) ≤ (k : Int) := by omega
          have pb : (0 : Int) ≤ (kN : Int) := by omega
          have ba : (k : Int) < (d.size : Int) := by omega
          have bb : (kN : Int) < (d.size : Int) := by omega
          obtain ⟨x, hx⟩ : ∃ x : Int, x = ((dk[k]!).val : Int) := ⟨_, rfl⟩
          obtain ⟨y, hy⟩ : ∃ y : Int, y = ((dk[kN]!).val : Int) := ⟨_, rfl⟩
          have S3 : Aside (SW encP w0 blk off (swp dk k kN) ((wr.setCell ⟨blk, off + k, none⟩ (.int .i64 y)).setCell ⟨blk, off + kN, none⟩ (.int .i64 x)).drew) := by rw [hx, hy]; exact S1.out.swapped R k kN (by omega) (by omega)
          have ca : wr.cell? ⟨blk, off + k, none⟩ = some (.int .i64 x) := by rw [hx]; exact S1.out.c1 R (by omega) k (by omega)
          have cb : wr.cell? ⟨blk, off + kN, none⟩ = some (.int .i64 y) := by rw [hy]; exact S1.out.c1 R (by omega) kN (by omega)
          have fa := S1.out.f1 R (by omega) k (by omega)
          have fb := S1.out.f1 R (by omega) kN (by omega)
          obtain ⟨u, cc⟩ := S1.out.c2 R (by omega) k kN (by omega) (by omega) (.int .i64 y)
          have HN : Hid (kN = k + 1) := hkN
          clear S1 hx hy hkN hib hie hsk
          go_wp2_with fail
          go_big_region
          clear ca cb cc fa fb
          generalize ((wr.setCell ⟨blk, off + k, none⟩ (.int .i64 y)).setCell ⟨blk, off + kN, none⟩ (.int .i64 x)).drew = w3 at S3 ⊢
          go_wp2
          go_roundg (ip - (k + 1))
          case measure => omega
          case rel => exact ⟨k + 1, swp dk k kN, by first | go_num | rw [HN.out], by omega, by omega, Nat.le_refl _, S3, by rw [HN.out]; exact HS.out.step hak (by have := HB.out; have := HI.out; omega) hbs⟩
        · have hltz : ¬ (k : Int) < (ip : Int) := by omega
          go_wp2
          (try simp only [Exit.inBlock, Exit.then]); refine bodyPost_ret (results_none rfl _ _ _) rfl ?_
          obtain rfl : k = ip := by omega
          refine ⟨rfl, dk, S1.out, ?_⟩
          have e := HM.out
          subst e
          exact ShiftR.done M.out HF.out (by rw [← HI.out]; exact HS.out)
end Go.Proofs.Ytkmoibikempieaa
