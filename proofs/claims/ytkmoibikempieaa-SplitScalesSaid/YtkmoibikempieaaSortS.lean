/- slices' stable sort, at the places of rests. -/
import Derived.Test.YtkmoibikempieaaSymM
import Derived.Test.YtkmoibikempieaaInsC
import Derived.Test.YtkmoibikempieaaStable2
namespace Go.Proofs.Ytkmoibikempieaa
open Go Go.RowKit Go.Sort Go.Lib
set_option linter.unusedVariables false

set_option maxHeartbeats 8000000 in
set_option maxRecDepth 100000 in
theorem stable_walk {N : Nat} {tt : Fin (N + 1) → Fin (N + 1) → Prop} {pl : Fin (N + 1) → Nat} {cf : Fin (N + 1) → Fin (N + 1) → Int} (T : Tot (ltOf cf) tt pl) (blk off cap n : Nat) (cb : Value) (d : Array (Fin (N + 1))) (w : World) (R : Row1 encP w blk off d) (hn : n = d.size)
    (C : Hid (CmpC N cb cf blk off d.size w)) (HPL : Hid (∀ i, i < n → pl d[i]! = i)) (hsz : n ≤ 1000) :
    Calls Try.prog 40 #[.slice (some ⟨blk, off, none⟩) n cap, .int .i64 n, .func (.func 34) #[] #[cb]] w fun e w' => e = .returned (.tuple #[]) ∧ ∃ d', SW encP w blk off d' w' ∧ Mgd tt 0 n d d' := by
  have S0 : Aside (SW encP w blk off d w) := SW.start R.hH
  have HN : Hid (n = d.size) := hn
  have HIC : Hid (∀ (a b : Nat) (dk : Array (Fin (N + 1))) (wr : World), dk.size = n → SW encP w blk off dk wr → a ≤ b → b ≤ n → (∀ p q, a ≤ p → p < q → q < b → pl dk[p]! < pl dk[q]!) → Calls Try.prog 44 #[.slice (some ⟨blk, off, none⟩) n cap, .int .i64 a, .int .i64 b, .func (.func 34) #[] #[cb]] wr fun e w' => e = .returned (.tuple #[]) ∧ ∃ d', SW encP w blk off d' w' ∧ Mgd tt a b dk d') := fun a b dk wr e S hab hb hp => by
    subst e
    exact ins_walk T blk off cap a b cb d dk w wr R hn.symm S (by rw [hn]; exact C.out) hab hb hp hsz
  have HMC : Hid (∀ (a m b : Nat) (dk : Array (Fin (N + 1))) (wr : World), dk.size = n → SW encP w blk off dk wr → Mrg tt pl a m b dk → Calls Try.prog 45 #[.slice (some ⟨blk, off, none⟩) n cap, .int .i64 a, .int .i64 m, .int .i64 b, .func (.func 34) #[] #[cb]] wr fun e w' => e = .returned (.tuple #[]) ∧ ∃ d', SW encP w blk off d' w' ∧ Mgd tt a b dk d') := fun a m b dk wr e S M => by
    have h := symMerge_walk T blk off cap d.size cb d w R rfl C (by omega) (b - a) a m b dk wr (Nat.le_refl _) (by omega) S M
    unfold MrgC at h
    rw [e] at h
    exact h
  clear hn
  go_enter Try.func40, Try.ntmps40
  go_wp2
  go_loopg [7, 8] n (fun g va vb wr => ∃ (a b : Nat) (dk : Array (Fin (N + 1))), va = .int .i64 a ∧ vb = .int .i64 b ∧ b = a + 20 ∧ a ≤ n ∧ n - a ≤ g ∧ Aside (SW encP w blk off dk wr) ∧ Hid (St1 tt pl n a d dk))
  case atStart => exact ⟨0, 20, d, rfl, rfl, rfl, Nat.zero_le _, Nat.le_refl _, S0, St1.start n d⟩
  case round =>
    clear S0
    obtain ⟨a, b, dk, rfl, rfl, hb, han, hg, S1, H1⟩ := hrel
    have e1 : Hid (dk.size = n) := (psize H1.out.perm).trans HN.out.symm
    by_cases hlt : b ≤ n
    · have hz : (b : Int) ≤ (n : Int) := by omega
      have hc := HIC.out a b dk wr e1.out S1.out (by omega) hlt (H1.out.pls HPL.out hlt)
      have HC : Aside _ := hc
      have r20 : IntKind.i64.wrap ((b : Int) + 20) = ((b + 20 : Nat) : Int) := by rw [IntKind.wrap_i64]; omega
      have HB : Hid (b = a + 20) := hb
      have HG : Hid _ := hg
      have HLT : Hid (b ≤ n) := hlt
      clear hc S1 hb hg
      go_wp2_with (go_at_call 44; refine Calls.mono HC.out ?_; rintro e w2 ⟨rfl, d2, S2, H2⟩)
      have S3 : Aside _ := S2
      have H3 : Hid _ := H2
      clear S2 H2
      go_roundg (n - b)
      case measure => have := HB.out; have := HG.out; omega
      case rel =>
        have hb := HB.out
        exact ⟨b, b + 20, d2, rfl, by first | rfl | go_num, rfl, HLT.out, Nat.le_refl _, S3, by subst hb; exact H1.out.step HPL.out HLT.out (by rw [← HN.out]; exact Nat.le_refl _) H3.out⟩
    · have hz : ¬ (b : Int) ≤ (n : Int) := by omega
      have hc := HIC.out a n dk wr e1.out S1.out han (Nat.le_refl _) (H1.out.pls HPL.out (Nat.le_refl _))
      have HC : Aside _ := hc
      have HB : Hid (n < a + 20) := (show n < a + 20 by omega)
      have HA : Hid (a ≤ n) := han
      clear hc S1 hb hg
      go_wp2_with (go_at_call 44; refine Calls.mono HC.out ?_; rintro e w2 ⟨rfl, d2, S2, H2⟩)
      have S3 : Aside _ := S2
      have H3 : Hid (St2 tt pl n 20 d d2) := H1.out.last HPL.out HA.out HB.out (by rw [← HN.out]; exact Nat.le_refl _) H2
      clear S2 H2 H1 e1 HC hz hlt han
      go_loopg [6] n (fun g vs wr2 => ∃ (s : Nat) (dk : Array (Fin (N + 1))), vs = .int .i64 s ∧ 20 ≤ s ∧ s ≤ 2000 ∧ n - s ≤ g ∧ Aside (SW encP w blk off dk wr2) ∧ Hid (St2 tt pl n s d dk))
      case atStart => exact ⟨20, d2, rfl, by omega, by omega, by omega, S3, H3.out⟩
      case round =>
        clear S3 H3
        obtain ⟨s, dk2, rfl, hs1, hs2, hg, S1, H1⟩ := hrel
        by_cases hlt : s < n
        · have hz : (s : Int) < (n : Int) := by omega
          obtain ⟨s2, hs2x⟩ : ∃ q, q = 2 * s := ⟨_, rfl⟩
          have rs : IntKind.i64.wrap (2 * (s : Int)) = (s2 : Int) := by rw [IntKind.wrap_i64]; omega
          have rs' : IntKind.i64.wrap ((s : Int) * 2) = (s2 : Int) := by rw [IntKind.wrap_i64]; omega
          have HS : Hid (s2 = 2 * s) := hs2x
          have HG : Hid _ := hg
          have hs0 : 0 < s := by omega
          clear hs2x hg
          go_wp2
          go_loopg [7, 8] n (fun g va vb wr3 => ∃ (a b : Nat) (dk : Array (Fin (N + 1))), va = .int .i64 a ∧ vb = .int .i64 b ∧ b = a + s2 ∧ a ≤ n ∧ n - a ≤ g ∧ Aside (SW encP w blk off dk wr3) ∧ Hid (St3 tt pl n s a d dk))
          case atStart => exact ⟨0, s2, dk2, rfl, rfl, by omega, Nat.zero_le _, Nat.le_refl _, S1, H1.out.start⟩
          case round =>
            clear S1 H1
            obtain ⟨a, b, dk, rfl, rfl, hb, han, hg2, S1, H1⟩ := hrel
            have hss := HS.out
            have e1 : Hid (dk.size = n) := (psize H1.out.perm).trans HN.out.symm
            by_cases hlt2 : b ≤ n
            · have hz2 : (b : Int) ≤ (n : Int) := by omega
              obtain ⟨m, hm⟩ : ∃ q, q = a + s := ⟨_, rfl⟩
              have rm : IntKind.i64.wrap ((a : Int) + (s : Int)) = (m : Int) := by rw [IntKind.wrap_i64]; omega
              obtain ⟨b2, hb2⟩ : ∃ q, q = b + s2 := ⟨_, rfl⟩
              have rb2 : IntKind.i64.wrap ((b : Int) + (s2 : Int)) = (b2 : Int) := by rw [IntKind.wrap_i64]; omega
              have hmr := H1.out.mrg hs0 (by omega) (by rw [← HN.out]; exact Nat.le_refl _)
              rw [← hm, ← hss, ← hb] at hmr
              have hc := HMC.out a m b dk wr e1.out S1.out hmr
              have HC : Aside _ := hc
              have HB : Hid (b = a + s2 ∧ m = a + s ∧ b2 = b + s2 ∧ b ≤ n) := ⟨hb, hm, hb2, hlt2⟩
              have HG2 : Hid _ := hg2
              clear hc S1 hb hg2 hmr hm hb2 hss
              go_wp2_with (go_at_call 45; refine Calls.mono HC.out ?_; rintro e w2 ⟨rfl, d2, S2, H2⟩)
              have S3 : Aside _ := S2
              have H3 : Hid _ := H2
              clear S2 H2
              go_roundg (n - b)
              case measure => have := HB.out; have := HG2.out; have := HS.out; omega
              case rel =>
                have hb := HB.out.1
                have hss := HS.out
                refine ⟨b, b2, d2, rfl, rfl, HB.out.2.2.1, HB.out.2.2.2, Nat.le_refl _, S3, ?_⟩
                have h3 := H3.out
                have h4 := HB.out.2.2.2
                rw [hb, hss] at h3 h4 ⊢
                exact H1.out.step hs0 h4 (by rw [← HN.out]; exact Nat.le_refl _) h3
            · have hz2 : ¬ (b : Int) ≤ (n : Int) := by omega
              obtain ⟨m, hm⟩ : ∃ q, q = a + s := ⟨_, rfl⟩
              have rm : IntKind.i64.wrap ((a : Int) + (s : Int)) = (m : Int) := by rw [IntKind.wrap_i64]; omega
              by_cases hm2 : m < n
              · have hz3 : (m : Int) < (n : Int) := by omega
                have hmr := H1.out.mrg2 (by omega) (by omega) (by rw [← HN.out]; exact Nat.le_refl _)
                rw [← hm] at hmr
                have hc := HMC.out a m n dk wr e1.out S1.out hmr
                have HC : Aside _ := hc
                have HB : Hid (a + s < n ∧ n < a + 2 * s) := ⟨by omega, by omega⟩
                clear hc S1 hb hg2 hmr hm hss
                go_wp2_with (go_at_call 45; refine Calls.mono HC.out ?_; rintro e w2 ⟨rfl, d2, S2, H2⟩)
                have S3 : Aside _ := S2
                have H3 : Hid _ := H2
                clear S2 H2
                go_roundg (n - s2)
                case measure => have := HG.out; have := HS.out; omega
                case rel =>
                  have hss := HS.out
                  exact ⟨s2, d2, rfl, by omega, by omega, Nat.le_refl _, S3, by rw [hss]; exact H1.out.last HB.out.1 HB.out.2 (by rw [← HN.out]; exact Nat.le_refl _) H3.out⟩
              · have hz3 : ¬ (m : Int) < (n : Int) := by omega
                have HB : Hid (n ≤ a + s ∧ a ≤ n) := ⟨by omega, by omega⟩
                clear hb hg2 hm hss
                go_wp2_with fail
                go_roundg (n - s2)
                case measure => have := HG.out; have := HS.out; omega
                case rel =>
                  have hss := HS.out
                  exact ⟨s2, dk, rfl, by omega, by omega, Nat.le_refl _, S1, by rw [hss]; exact H1.out.none hs0 HB.out.2 HB.out.1⟩
        · have hz : ¬ (s : Int) < (n : Int) := by omega
          go_wp2
          go_end0
          exact ⟨rfl, dk2, S1.out, H1.out.done (by omega)⟩

set_option maxHeartbeats 1000000 in
set_option maxRecDepth 100000 in
theorem sortStable_walk {N : Nat} {tt : Fin (N + 1) → Fin (N + 1) → Prop} {pl : Fin (N + 1) → Nat} {cf : Fin (N + 1) → Fin (N + 1) → Int} (T : Tot (ltOf cf) tt pl) (blk off cap n : Nat) (cb : Value) (d : Array (Fin (N + 1))) (w : World) (R : Row1 encP w blk off d) (hn : n = d.size)
    (C : Hid (CmpC N cb cf blk off d.size w)) (HPL : Hid (∀ i, i < n → pl d[i]! = i)) (hsz : n ≤ 1000) :
    Calls Try.prog 33 #[.slice (some ⟨blk, off, none⟩) n cap, .func (.func 34) #[] #[cb]] w fun e w' => e = .returned (.tuple #[]) ∧ ∃ d', SW encP w blk off d' w' ∧ Mgd tt 0 n d d' := by
  have hc := stable_walk T blk off cap n cb d w R hn C HPL hsz
  have HC : Aside _ := hc
  clear hc hn
  go_enter Try.func33, Try.ntmps33
  go_wp2_with (go_at_call 40; refine Calls.mono HC.out ?_; rintro e w2 ⟨rfl, d2, S2, H2⟩)
  go_end0
  exact ⟨rfl, d2, S2, H2⟩
end Go.Proofs.Ytkmoibikempieaa
