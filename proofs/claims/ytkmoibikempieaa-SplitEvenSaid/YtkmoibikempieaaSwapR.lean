/- Two stretches of places exchanged: slices' swapRange and rotate, at the places of rests. -/
import Derived.Test.YtkmoibikempieaaProg
import Derived.Test.YtkmoibikempieaaStable
import Derived.Shelf.SlSortCmp.Insertion1
import Derived.RegionTactic
import Derived.LoopTactic
import Derived.BigRegion
import Derived.BigQuiet
import Derived.Deep.LoopGhost
import Derived.Deep.QuietTactic
import Derived.WalkKit
import Derived.WalkSmall
namespace Go.Proofs.Ytkmoibikempieaa
open Go Go.RowKit Go.Sort Go.Lib
set_option linter.unusedVariables false

/-- a place as a value -/
def encP {N : Nat} (x : Fin (N + 1)) : Value := .int .i64 (x.val : Int)

set_option maxHeartbeats 4000000 in
set_option maxRecDepth 100000 in
theorem swapRange_walk {N : Nat} (blk off cap a b n : Nat) (cv : Value) (d0 d : Array (Fin (N + 1))) (w0 w : World) (R : Row1 encP w0 blk off d0) (hs : d0.size = d.size) (S : SW encP w0 blk off d w) (hab : a + n ≤ b) (hb : b + n ≤ d.size) (hsz : d.size ≤ 1000) :
    Calls Try.prog 47 #[.slice (some ⟨blk, off, none⟩) d.size cap, .int .i64 a, .int .i64 b, .int .i64 n, cv] w fun e w' => e = .returned (.tuple #[]) ∧ ∃ d', SW encP w0 blk off d' w' ∧ Swapped a b n d d' := by
  have S0 : Aside (SW encP w0 blk off d w) := S
  clear S
  go_enter Try.func47, Try.ntmps47
  go_wp2
  go_loopg [10] n (fun g vi wr => ∃ (i : Nat) (dk : Array (Fin (N + 1))), vi = .int .i64 i ∧ i ≤ n ∧ n - i ≤ g ∧ Aside (SW encP w0 blk off dk wr) ∧ Hid (Swapped a b i d dk))
  case atStart => exact ⟨0, d, rfl, by omega, by omega, S0, Swapped.start a b d⟩
  case round =>
    clear S0
    obtain ⟨i, dk, rfl, hin, hg, S1, HS⟩ := hrel
    by_cases hlt : i < n
    · have hltz : (i : Int) < (n : Int) := by omega
      have hsk := HS.out.size
      obtain ⟨iN, hiN⟩ : ∃ q, q = a + i := ⟨_, rfl⟩
      obtain ⟨jN, hjN⟩ : ∃ q, q = b + i := ⟨_, rfl⟩
      have ra : IntKind.i64.wrap ((a : Int) + (i : Int)) = (iN : Int) := by rw [IntKind.wrap_i64]; omega
      have rb : IntKind.i64.wrap ((b : Int) + (i : Int)) = (jN : Int) := by rw [IntKind.wrap_i64]; omega
      have pa : (0 : Int) ≤ (iN : Int) := by omega
      have pb : (0 : Int) ≤ (jN : Int) := by omega
      have ba : (iN : Int) < (d.size : Int) := by omega
      have bb : (jN : Int) < (d.size : Int) := by omega
      obtain ⟨x, hx⟩ : ∃ x : Int, x = ((dk[iN]!).val : Int) := ⟨_, rfl⟩
      obtain ⟨y, hy⟩ : ∃ y : Int, y = ((dk[jN]!).val : Int) := ⟨_, rfl⟩
      have S3 : Aside (SW encP w0 blk off (swp dk iN jN) ((wr.setCell ⟨blk, off + iN, none⟩ (.int .i64 y)).setCell ⟨blk, off + jN, none⟩ (.int .i64 x)).drew) := by rw [hx, hy]; exact S1.out.swapped R iN jN (by omega) (by omega)
      have ca : wr.cell? ⟨blk, off + iN, none⟩ = some (.int .i64 x) := by rw [hx]; exact S1.out.c1 R (by omega) iN (by omega)
      have cb : wr.cell? ⟨blk, off + jN, none⟩ = some (.int .i64 y) := by rw [hy]; exact S1.out.c1 R (by omega) jN (by omega)
      have fa := S1.out.f1 R (by omega) iN (by omega)
      have fb := S1.out.f1 R (by omega) jN (by omega)
      obtain ⟨u, cc⟩ := S1.out.c2 R (by omega) iN jN (by omega) (by omega) (.int .i64 y)
      have HN : Hid (iN = a + i ∧ jN = b + i) := ⟨hiN, hjN⟩
      clear S1 hx hy hiN hjN
      go_wp2_with fail
      go_big_region
      clear ca cb cc fa fb
      generalize ((wr.setCell ⟨blk, off + iN, none⟩ (.int .i64 y)).setCell ⟨blk, off + jN, none⟩ (.int .i64 x)).drew = w3 at S3 ⊢
      go_wp2
      go_roundg (n - (i + 1))
      case measure => omega
      case rel => exact ⟨i + 1, swp dk iN jN, by go_num, by omega, Nat.le_refl _, S3, by rw [HN.out.1, HN.out.2]; exact HS.out.step hlt hab hb⟩
    · have hltz : ¬ (i : Int) < (n : Int) := by omega
      go_wp2
      go_end0
      obtain rfl : i = n := by omega
      exact ⟨rfl, dk, S1.out, HS.out⟩

set_option maxHeartbeats 4000000 in
set_option maxRecDepth 100000 in
theorem rotate_walk {N : Nat} (blk off cap a m b : Nat) (cv : Value) (d0 d : Array (Fin (N + 1))) (w0 w : World) (R : Row1 encP w0 blk off d0) (hs : d0.size = d.size) (S : SW encP w0 blk off d w) (ham : a < m) (hmb : m < b) (hb : b ≤ d.size) (hsz : d.size ≤ 1000) :
    Calls Try.prog 46 #[.slice (some ⟨blk, off, none⟩) d.size cap, .int .i64 a, .int .i64 m, .int .i64 b, cv] w fun e w' => e = .returned (.tuple #[]) ∧ ∃ d', SW encP w0 blk off d' w' ∧ Rotated a m b d d' := by
  have S0 : Aside (SW encP w0 blk off d w) := S
  clear S
  obtain ⟨i0, hi0⟩ : ∃ q, q = m - a := ⟨_, rfl⟩
  obtain ⟨j0, hj0⟩ : ∃ q, q = b - m := ⟨_, rfl⟩
  have ri : IntKind.i64.wrap ((m : Int) - (a : Int)) = (i0 : Int) := by rw [IntKind.wrap_i64]; omega
  have rj : IntKind.i64.wrap ((b : Int) - (m : Int)) = (j0 : Int) := by rw [IntKind.wrap_i64]; omega
  have H0 : Hid (i0 = m - a ∧ j0 = b - m) := ⟨hi0, hj0⟩
  clear hi0 hj0
  go_enter Try.func46, Try.ntmps46
  go_wp2
  go_loopg [10, 11] (i0 + j0) (fun g vi vj wr => ∃ (i j : Nat) (dk : Array (Fin (N + 1))), vi = .int .i64 i ∧ vj = .int .i64 j ∧ i + j ≤ g ∧ Aside (SW encP w0 blk off dk wr) ∧ Hid (RotI a m b i j d dk))
  case atStart => exact ⟨i0, j0, d, by first | rfl | (congr 1; omega), by first | rfl | (congr 1; omega), by omega, S0, by rw [H0.out.1, H0.out.2]; exact RotI.start ham hmb hb⟩
  case round =>
    clear S0 ri rj
    obtain ⟨i, j, dk, rfl, rfl, hg, S1, HR⟩ := hrel
    have h1 := HR.out.i0
    have h2 := HR.out.j0
    have h3 := HR.out.im
    have h4 := HR.out.jm
    have h5 := psize HR.out.perm
    obtain ⟨mi, hmi⟩ : ∃ q, q = m - i := ⟨_, rfl⟩
    have rmi : IntKind.i64.wrap ((m : Int) - (i : Int)) = (mi : Int) := by rw [IntKind.wrap_i64]; omega
    by_cases hij : i = j
    · subst hij
      have hz : ¬ (i : Int) ≠ (i : Int) := by omega
      have hc := swapRange_walk blk off cap mi m i cv d0 dk w0 wr R (by omega) S1.out (by omega) (by omega) (by omega)
      rw [h5] at hc
      have HC : Aside _ := hc
      have HM : Hid (mi = m - i) := hmi
      clear hc S1 hmi h1 h2 h3 h4 h5
      go_wp2_with (go_at_call 47; refine Calls.mono HC.out ?_; rintro e w2 ⟨rfl, d2, S2, H2⟩)
      go_end0
      exact ⟨rfl, d2, S2, HR.out.done (by rw [← HM.out]; exact H2)⟩
    · have hz : (i : Int) ≠ (j : Int) := by omega
      by_cases hlt : j < i
      · have hz2 : (j : Int) < (i : Int) := by omega
        obtain ⟨ij, hijx⟩ : ∃ q, q = i - j := ⟨_, rfl⟩
        have rij : IntKind.i64.wrap ((i : Int) - (j : Int)) = (ij : Int) := by rw [IntKind.wrap_i64]; omega
        have hc := swapRange_walk blk off cap mi m j cv d0 dk w0 wr R (by omega) S1.out (by omega) (by omega) (by omega)
        rw [h5] at hc
        have HC : Aside _ := hc
        have HM : Hid (mi = m - i ∧ ij = i - j ∧ j < i ∧ ij + j < i + j) := ⟨hmi, hijx, hlt, by omega⟩
        have HG : Hid _ := hg
        clear hc S1 hmi hijx h1 h2 h3 h4 h5 hlt hg
        go_wp2_with (go_at_call 47; refine Calls.mono HC.out ?_; rintro e w2 ⟨rfl, d2, S2, H2⟩)
        have S3 : Aside _ := S2
        have H3 : Hid (Swapped mi m j dk d2) := H2
        clear S2 H2
        go_roundg (ij + j)
        case measure => exact Nat.lt_of_lt_of_le HM.out.2.2.2 HG.out
        case rel => exact ⟨ij, j, d2, rfl, rfl, Nat.le_refl _, S3, by rw [HM.out.2.1]; exact HR.out.one HM.out.2.2.1 (by rw [← HM.out.1]; exact H3.out)⟩
      · have hz2 : ¬ (j : Int) < (i : Int) := by omega
        obtain ⟨ji, hjix⟩ : ∃ q, q = j - i := ⟨_, rfl⟩
        have rji : IntKind.i64.wrap ((j : Int) - (i : Int)) = (ji : Int) := by rw [IntKind.wrap_i64]; omega
        obtain ⟨mj, hmj⟩ : ∃ q, q = m + j := ⟨_, rfl⟩
        have rmj : IntKind.i64.wrap ((m : Int) + (j : Int)) = (mj : Int) := by rw [IntKind.wrap_i64]; omega
        obtain ⟨mji, hmji⟩ : ∃ q, q = m + j - i := ⟨_, rfl⟩
        have rmji : IntKind.i64.wrap ((mj : Int) - (i : Int)) = (mji : Int) := by rw [IntKind.wrap_i64]; omega
        have hc := swapRange_walk blk off cap mi mji i cv d0 dk w0 wr R (by omega) S1.out (by omega) (by omega) (by omega)
        rw [h5] at hc
        have HC : Aside _ := hc
        have HM : Hid (mi = m - i ∧ ji = j - i ∧ i < j ∧ i + ji < i + j ∧ mji = m + j - i) := ⟨hmi, hjix, by omega, by omega, hmji⟩
        have HG : Hid _ := hg
        clear hc S1 hmi hjix hmj hmji h1 h2 h3 h4 h5 hg
        go_wp2_with (go_at_call 47; refine Calls.mono HC.out ?_; rintro e w2 ⟨rfl, d2, S2, H2⟩)
        have S3 : Aside _ := S2
        have H3 : Hid (Swapped mi mji i dk d2) := H2
        clear S2 H2
        go_roundg (i + ji)
        case measure => exact Nat.lt_of_lt_of_le HM.out.2.2.2.1 HG.out
        case rel => exact ⟨i, ji, d2, rfl, rfl, Nat.le_refl _, S3, by rw [HM.out.2.1]; exact HR.out.two HM.out.2.2.1 (by rw [← HM.out.1, ← HM.out.2.2.2.2]; exact H3.out)⟩
end Go.Proofs.Ytkmoibikempieaa
