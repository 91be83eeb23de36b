/- slices' symMerge, at the places of rests, where the second stretch is a single one. -/
import Derived.Test.YtkmoibikempieaaSymM1
namespace Go.Proofs.Ytkmoibikempieaa
open Go Go.RowKit Go.Sort Go.Lib
set_option linter.unusedVariables false

set_option maxHeartbeats 8000000 in
set_option maxRecDepth 100000 in
theorem symMerge2 {N : Nat} {tt : Fin (N + 1) → Fin (N + 1) → Prop} {pl : Fin (N + 1) → Nat} {cf : Fin (N + 1) → Fin (N + 1) → Int} (T : Tot (ltOf cf) tt pl) (blk off cap a m b : Nat) (cb : Value) (d0 d : Array (Fin (N + 1))) (w0 w : World) (R : Row1 encP w0 blk off d0) (hs : d0.size = d.size) (S : SW encP w0 blk off d w)
    (C : Hid (CmpC N cb cf blk off d.size w0)) (M : Hid (Mrg tt pl a m b d)) (hm : ¬ m = a + 1) (hb : b = m + 1) (hsz : d.size ≤ 1000) :
    Calls Try.prog 45 #[.slice (some ⟨blk, off, none⟩) d.size cap, .int .i64 a, .int .i64 m, .int .i64 b, .func (.func 34) #[] #[cb]] w fun e w' => e = .returned (.tuple #[]) ∧ ∃ d', SW encP w0 blk off d' w' ∧ Mgd tt a b d d' := by
  have S0 : Aside (SW encP w0 blk off d w) := S
  clear S
  have ham := M.out.am
  have hbs := M.out.bs
  obtain ⟨ma, hma⟩ : ∃ q, q = m - a := ⟨_, rfl⟩
  have rm : IntKind.i64.wrap ((m : Int) - (a : Int)) = (ma : Int) := by rw [IntKind.wrap_i64]; omega
  have nm : ¬ (ma : Int) = 1 := by omega
  have nm' : ((ma : Int) == 1) = false := beq_eq_false_iff_ne.2 nm
  have rb : IntKind.i64.wrap ((b : Int) - (m : Int)) = 1 := by rw [IntKind.wrap_i64]; omega
  have HM : Hid (b = m + 1) := hb
  clear hm hb hma
  go_enter Try.func45, Try.ntmps45
  go_wp2
  clear rm rb nm nm'
  go_loopg [14, 15] (m - a) (fun g vi vj wr => ∃ i j : Nat, vi = .int .i64 i ∧ vj = .int .i64 j ∧ j - i ≤ g ∧ Aside (SW encP w0 blk off d wr) ∧ Hid (FindL tt a m i j d))
  case atStart => exact ⟨a, m, rfl, rfl, by omega, S0, FindL.start ham⟩
  case round =>
    clear S0
    obtain ⟨i, j, rfl, rfl, hg, S1, HF⟩ := hrel
    have h1 := HF.out.ai
    have h2 := HF.out.ij
    have h3 := HF.out.jm
    have hmb := HM.out
    by_cases hlt : i < j
    · have hz : (i : Int) < (j : Int) := by omega
      obtain ⟨x, hx⟩ : ∃ q, q = (i + j) / 2 := ⟨_, rfl⟩
      have rx : ((i : Int) + (j : Int)) / 2 = (x : Int) := by omega
      have px : (0 : Int) ≤ (x : Int) := by omega
      have bx : (x : Int) < (d.size : Int) := by omega
      have pa : (0 : Int) ≤ (m : Int) := by omega
      have ba : (m : Int) < (d.size : Int) := by omega
      have hc := C.out.at rfl S1.out m x
      have cx := S1.out.c1 R hs.symm x (by omega)
      have ca := S1.out.c1 R hs.symm m (by omega)
      simp only [encP] at cx ca
      have HL : Hid _ := (show ltOf cf d[m]! d[x]! = decide (cf d[m]! d[x]! < 0) from rfl)
      generalize cf d[m]! d[x]! = c at hc HL
      generalize ((d[x]!).val : Int) = vx at hc cx
      generalize ((d[m]!).val : Int) = va at hc ca
      have HX : Hid (i ≤ x ∧ x < j) := by exact ⟨by omega, by omega⟩
      have S2 : Hid (∀ n, SW encP w0 blk off d (wr.drewN n)) := fun n => S1.out.drewN n
      clear S1 hx h1 h2 h3 hmb hlt
      by_cases hlc : c < 0
      · go_wp2_with fail
        go_quiet (first | (go_at_call 34; with_reducible exact Calls.quiet_of (hc _)))
        go_wp2
        go_roundg (x - i)
        case measure => have := HX.out; omega
        case rel => exact ⟨i, x, rfl, rfl, Nat.le_refl _, S2.out _, HF.out.down T M.out HX.out.1 HX.out.2 (HL.out.trans (decide_eq_true hlc))⟩
      · have hd : decide (c < 0) = false := decide_eq_false hlc
        have hd2 : decide (0 ≤ c) = true := decide_eq_true (by omega)
        have hd3 : 0 ≤ c := by omega
        go_wp2_with fail
        go_quiet (first | (go_at_call 34; with_reducible exact Calls.quiet_of (hc _)))
        go_wp2
        go_roundg (j - (x + 1))
        case measure => have := HX.out; omega
        case rel => exact ⟨x + 1, j, by go_num, rfl, Nat.le_refl _, S2.out _, HF.out.up T M.out HX.out.1 HX.out.2 (HL.out.trans (decide_eq_false (by omega)))⟩
    · have hz : ¬ (i : Int) < (j : Int) := by omega
      obtain rfl : i = j := by omega
      have HB : Hid (a ≤ i ∧ i ≤ m ∧ b = m + 1) := by exact ⟨by omega, by omega, by omega⟩
      have him : i ≤ m := by omega
      clear h1 h2 h3 hmb hlt
      go_wp2
      go_loopg [17] (m - i) (fun g vk wr2 => ∃ (k : Nat) (dk : Array (Fin (N + 1))), vk = .int .i64 k ∧ i ≤ k ∧ k ≤ m ∧ k - i ≤ g ∧ Aside (SW encP w0 blk off dk wr2) ∧ Hid (ShiftL a m b k d dk))
      case atStart => exact ⟨m, d, rfl, him, Nat.le_refl _, Nat.le_refl _, S1, ShiftL.start a m b d⟩
      case round =>
        clear S1
        obtain ⟨k, dk, rfl, hik, hkm, hg2, S1, HS⟩ := hrel
        by_cases hlt : i < k
        · have hltz : (i : Int) < (k : Int) := by omega
          have hsk := psize HS.out.perm
          have hib := HB.out
          obtain ⟨kp, hkp⟩ : ∃ q, q + 1 = k := ⟨k - 1, by omega⟩
          have rk : IntKind.i64.wrap ((k : Int) - 1) = (kp : Int) := by rw [IntKind.wrap_i64]; omega
          have pa : (0 : Int) ≤ (k : Int) := by omega
          have pb : (0 : Int) ≤ (kp : Int) := by omega
          have ba : (k : Int) < (d.size : Int) := by omega
          have bb : (kp : Int) < (d.size : Int) := by omega
          obtain ⟨x, hx⟩ : ∃ x : Int, x = ((dk[k]!).val : Int) := ⟨_, rfl⟩
          obtain ⟨y, hy⟩ : ∃ y : Int, y = ((dk[kp]!).val : Int) := ⟨_, rfl⟩
          have S3 : Aside (SW encP w0 blk off (swp dk k kp) ((wr.setCell ⟨blk, off + k, none⟩ (.int .i64 y)).setCell ⟨blk, off + kp, none⟩ (.int .i64 x)).drew) := by rw [hx, hy]; exact S1.out.swapped R k kp (by omega) (by omega)
          have ca : wr.cell? ⟨blk, off + k, none⟩ = some (.int .i64 x) := by rw [hx]; exact S1.out.c1 R (by omega) k (by omega)
          have cb : wr.cell? ⟨blk, off + kp, none⟩ = some (.int .i64 y) := by rw [hy]; exact S1.out.c1 R (by omega) kp (by omega)
          have fa := S1.out.f1 R (by omega) k (by omega)
          have fb := S1.out.f1 R (by omega) kp (by omega)
          obtain ⟨u, cc⟩ := S1.out.c2 R (by omega) k kp (by omega) (by omega) (.int .i64 y)
          have HN : Hid (kp + 1 = k ∧ kp - i < k - i) := ⟨hkp, by omega⟩
          have HG : Hid _ := hg2
          have H5 : Hid (a ≤ kp ∧ i ≤ kp) := by exact ⟨by omega, by omega⟩
          have H4 : Hid (k ≤ m) := hkm
          clear S1 hx hy hkp hib hsk hg2 hik hkm
          go_wp2_with fail
          go_big_region
          clear ca cb cc fa fb
          generalize ((wr.setCell ⟨blk, off + k, none⟩ (.int .i64 y)).setCell ⟨blk, off + kp, none⟩ (.int .i64 x)).drew = w3 at S3 ⊢
          go_wp2
          go_roundg (kp - i)
          case measure => exact Nat.lt_of_lt_of_le HN.out.2 HG.out
          case rel =>
            have e := HN.out.1
            have e4 := H4.out
            have e5 := H5.out
            exact ⟨kp, swp dk k kp, by first | rfl | go_num, e5.2, by omega, Nat.le_refl _, S3, by subst e; exact HS.out.step e5.1 e4 (by have := HB.out; omega) hbs⟩
        · have hltz : ¬ (i : Int) < (k : Int) := by omega
          go_wp2
          (try simp only [Exit.inBlock, Exit.then]); refine bodyPost_ret (results_none rfl _ _ _) rfl ?_
          obtain rfl : k = i := by omega
          refine ⟨rfl, dk, S1.out, ?_⟩
          have e := HM.out
          subst e
          exact ShiftL.done M.out HF.out HS.out
end Go.Proofs.Ytkmoibikempieaa
