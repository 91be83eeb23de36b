/- slices' symMerge, at the places of rests. -/
import Derived.Test.YtkmoibikempieaaSymM2
import Derived.Deep.CutBlock
import Derived.Deep.DeepCutAuto
namespace Go.Proofs.Ytkmoibikempieaa
open Go Go.RowKit Go.Sort Go.Lib
set_option linter.unusedVariables false

/-- a merge is called so -/
def MrgC {N : Nat} (tt : Fin (N + 1) → Fin (N + 1) → Prop) (blk off cap : Nat) (cb : Value) (w0 w : World) (a m b : Nat) (d : Array (Fin (N + 1))) : Prop :=
  Calls Try.prog 45 #[.slice (some ⟨blk, off, none⟩) d.size cap, .int .i64 a, .int .i64 m, .int .i64 b, .func (.func 34) #[] #[cb]] w fun e w' => e = .returned (.tuple #[]) ∧ ∃ d', SW encP w0 blk off d' w' ∧ Mgd tt a b d d'

set_option maxHeartbeats 8000000 in
set_option maxRecDepth 100000 in
theorem symMerge3 {N : Nat} {tt : Fin (N + 1) → Fin (N + 1) → Prop} {pl : Fin (N + 1) → Nat} {cf : Fin (N + 1) → Fin (N + 1) → Int} (T : Tot (ltOf cf) tt pl) (blk off cap a m b : Nat) (cb : Value) (d0 d : Array (Fin (N + 1))) (w0 w : World) (R : Row1 encP w0 blk off d0) (hs : d0.size = d.size) (S : SW encP w0 blk off d w)
    (C : Hid (CmpC N cb cf blk off d.size w0)) (M : Hid (Mrg tt pl a m b d)) (hm : ¬ m = a + 1) (hb : ¬ b = m + 1) (hsz : d.size ≤ 1000)
    (IH : Hid (∀ (a' m' b' : Nat) (d' : Array (Fin (N + 1))) (w' : World), b' - a' < b - a → d'.size = d.size → SW encP w0 blk off d' w' → Mrg tt pl a' m' b' d' → MrgC tt blk off cap cb w0 w' a' m' b' d')) :
    MrgC tt blk off cap cb w0 w a m b d := by
  have S0 : Aside (SW encP w0 blk off d w) := S
  clear S
  have ham := M.out.am
  have hmb := M.out.mb
  have hbs := M.out.bs
  obtain ⟨ma, hma⟩ : ∃ q, q = m - a := ⟨_, rfl⟩
  obtain ⟨bm, hbm⟩ : ∃ q, q = b - m := ⟨_, rfl⟩
  have rm : IntKind.i64.wrap ((m : Int) - (a : Int)) = (ma : Int) := by rw [IntKind.wrap_i64]; omega
  have nm : ¬ (ma : Int) = 1 := by omega
  have nm' : ((ma : Int) == 1) = false := beq_eq_false_iff_ne.2 nm
  have rb : IntKind.i64.wrap ((b : Int) - (m : Int)) = (bm : Int) := by rw [IntKind.wrap_i64]; omega
  have nb : ¬ (bm : Int) = 1 := by omega
  have nb' : ((bm : Int) == 1) = false := beq_eq_false_iff_ne.2 nb
  obtain ⟨mid, hmid⟩ : ∃ q, q = (a + b) / 2 := ⟨_, rfl⟩
  obtain ⟨n, hn⟩ : ∃ q, q = mid + m := ⟨_, rfl⟩
  have rab : IntKind.i64.wrap ((a : Int) + (b : Int)) = (a : Int) + (b : Int) := by rw [IntKind.wrap_i64]; omega
  have rmid : ((a : Int) + (b : Int)) / 2 = (mid : Int) := by omega
  have rn : IntKind.i64.wrap ((mid : Int) + (m : Int)) = (n : Int) := by rw [IntKind.wrap_i64]; omega
  obtain ⟨q, hq⟩ : ∃ q, decide (mid < m) = q := ⟨_, rfl⟩
  have HQ : Hid (decide (mid < m) = q) := hq
  have HM : Hid (mid = (a + b) / 2 ∧ n = mid + m ∧ a + 1 < m ∧ m + 1 < b) := ⟨hmid, hn, by omega, by omega⟩
  clear hm hb hma hbm hmid hn
  unfold MrgC
  go_enter Try.func45, Try.ntmps45
  go_upto_if 140 with fail
  clear rm rb nm nb nm' nb' rab rmid rn hq
  go_cut [20, 21] from 141 to 146 (fun s r wx => ∃ s0 r0 : Nat, s = .int .i64 s0 ∧ r = .int .i64 r0 ∧ CutB a m b n s0 r0 ∧ wx = w)
  case first =>
    obtain ⟨h1, h2, h3, h4⟩ := HM.out
    have hq := HQ.out
    cases q
    rotate_left
    · have cn : mid < m := of_decide_eq_true hq
      have cz : (mid : Int) < (m : Int) := by omega
      obtain ⟨s0, hs0⟩ : ∃ q, q = n - b := ⟨_, rfl⟩
      have rs : IntKind.i64.wrap ((n : Int) - (b : Int)) = (s0 : Int) := by rw [IntKind.wrap_i64]; omega
      have HC : Hid (CutB a m b n s0 mid) := (by rw [hs0, h2, h1]; exact CutB.right h3 h4 (by omega))
      clear h1 h2 hs0 hq
      go_wp2_with fail
      go_meet
      case rel => exact ⟨s0, mid, rfl, rfl, HC.out, rfl⟩
    · have cn : ¬ mid < m := of_decide_eq_false hq
      have cz : ¬ (mid : Int) < (m : Int) := by omega
      have HC : Hid (CutB a m b n a m) := (by rw [h2, h1]; exact CutB.left h3 h4 (by omega))
      clear h1 h2 hq
      go_wp2_with fail
      go_meet
      case rel => exact ⟨a, m, rfl, rfl, HC.out, rfl⟩
  case rest =>
    obtain ⟨s0, r0, rfl, rfl, CB, rfl⟩ := hcut
    have HCB : Hid (CutB a m b n s0 r0) := CB
    have k1 := CB.s0r0
    obtain ⟨h1, h2, h3, h4⟩ := HM.out
    obtain ⟨p, hp⟩ : ∃ q, q = n - 1 := ⟨_, rfl⟩
    have rp : IntKind.i64.wrap ((n : Int) - 1) = (p : Int) := by rw [IntKind.wrap_i64]; omega
    have HP : Hid (p = n - 1) := hp
    clear CB h1 h2 h3 h4 hp
    go_wp2_with fail
    clear rp
    go_loopg [20, 21] (r0 - s0) (fun g vi vj wr => ∃ i j : Nat, vi = .int .i64 i ∧ vj = .int .i64 j ∧ j - i ≤ g ∧ Aside (SW encP w0 blk off d wr) ∧ Hid (FindM tt a m b n s0 r0 i j d))
    case atStart => exact ⟨s0, r0, rfl, rfl, Nat.le_refl _, S0, FindM.start HCB.out⟩
    case round =>
      clear S0
      obtain ⟨i, j, rfl, rfl, hg, S1, HF⟩ := hrel
      have h2 := HF.out.sr
      by_cases hlt : i < j
      · have hz : (i : Int) < (j : Int) := by omega
        have h1 := HF.out.s0s
        have h3 := HF.out.rr0
        obtain ⟨x, hx⟩ : ∃ q, q = (i + j) / 2 := ⟨_, rfl⟩
        have hb1 := HCB.out.nb x (by omega) (by omega)
        have hb2 := HCB.out.r0m
        have hb3 := HP.out
        have rij : IntKind.i64.wrap ((i : Int) + (j : Int)) = (i : Int) + (j : Int) := by rw [IntKind.wrap_i64]; omega
        have rx : ((i : Int) + (j : Int)) / 2 = (x : Int) := by omega
        obtain ⟨y, hy⟩ : ∃ q, q = n - 1 - x := ⟨_, rfl⟩
        have ry : IntKind.i64.wrap ((p : Int) - (x : Int)) = (y : Int) := by rw [IntKind.wrap_i64]; omega
        have px : (0 : Int) ≤ (x : Int) := by omega
        have bx : (x : Int) < (d.size : Int) := by omega
        have pa : (0 : Int) ≤ (y : Int) := by omega
        have ba : (y : Int) < (d.size : Int) := by omega
        have hc := C.out.at rfl S1.out y x
        have cx := S1.out.c1 R hs.symm x (by omega)
        have ca := S1.out.c1 R hs.symm y (by omega)
        simp only [encP] at cx ca
        have HL : Hid _ := (show ltOf cf d[y]! d[x]! = decide (cf d[y]! d[x]! < 0) from rfl)
        generalize cf d[y]! d[x]! = c at hc HL
        generalize ((d[x]!).val : Int) = vx at hc cx
        generalize ((d[y]!).val : Int) = va at hc ca
        have HX : Hid (i ≤ x ∧ x < j ∧ y = n - 1 - x) := by exact ⟨by omega, by omega, hy⟩
        have S2 : Hid (∀ n, SW encP w0 blk off d (wr.drewN n)) := fun n => S1.out.drewN n
        clear S1 hx h1 h2 h3 hlt hy hb1 hb2 hb3
        by_cases hlc : c < 0
        · go_wp2_with fail
          go_quiet (first | (go_at_call 34; with_reducible exact Calls.quiet_of (hc _)))
          go_wp2
          go_roundg (x - i)
          case measure => have := HX.out; omega
          case rel => exact ⟨i, x, rfl, rfl, Nat.le_refl _, S2.out _, HF.out.down T M.out HCB.out HX.out.1 HX.out.2.1 (by rw [← HX.out.2.2]; exact HL.out.trans (decide_eq_true hlc))⟩
        · have hd : decide (c < 0) = false := decide_eq_false hlc
          have hd2 : decide (0 ≤ c) = true := decide_eq_true (by omega)
          have hd3 : 0 ≤ c := by omega
          go_wp2_with fail
          go_quiet (first | (go_at_call 34; with_reducible exact Calls.quiet_of (hc _)))
          go_wp2
          go_roundg (j - (x + 1))
          case measure => have := HX.out; omega
          case rel => exact ⟨x + 1, j, by go_num, rfl, Nat.le_refl _, S2.out _, HF.out.up T M.out HCB.out HX.out.1 HX.out.2.1 (by rw [← HX.out.2.2]; exact HL.out.trans (decide_eq_false (by omega)))⟩
      · have hz : ¬ (i : Int) < (j : Int) := by omega
        obtain rfl : i = j := by omega
        obtain ⟨h1, h2', h3, h4⟩ := HM.out
        have HCut : Hid (Cut tt a m b mid i (n - i) d) := (by rw [h1]; exact HF.out.cut T M.out HCB.out (by omega))
        have HQ := HCut.out
        have q1 := HQ.as_
        have q2 := HQ.sm
        have q3 := HQ.me
        have q4 := HQ.eb
        have q5 := HQ.am
        have q6 := HQ.mb
        clear HQ
        obtain ⟨e, he⟩ : ∃ q, q = n - i := ⟨_, rfl⟩
        rw [← he] at HCut q3 q4
        have re : IntKind.i64.wrap ((n : Int) - (i : Int)) = (e : Int) := by rw [IntKind.wrap_i64]; omega
        clear h1 h2 h2' h3 h4 he hlt
        go_upto_region 39 with fail
        clear re
        go_cut [185] from 178 to 185 (fun t wx => ∃ g : Bool, t = .bool g ∧ wx = wr ∧ (g = true ↔ (i < m ∧ m < e)))
        case first =>
          by_cases c1 : i < m
          · have c1z : (i : Int) < (m : Int) := by omega
            have c1d : decide (i < m) = true := decide_eq_true c1
            by_cases c2 : m < e
            · have c2z : (m : Int) < (e : Int) := by omega
              have c2d : decide (m < e) = true := decide_eq_true c2
              go_wp2_with fail
              go_meet
              case rel => exact ⟨true, rfl, rfl, by simp [c1, c2]⟩
            · have c2z : ¬ (m : Int) < (e : Int) := by omega
              have c2d : decide (m < e) = false := decide_eq_false c2
              go_wp2_with fail
              go_meet
              case rel => exact ⟨false, rfl, rfl, by simp [c1, c2]⟩
          · have c1z : ¬ (i : Int) < (m : Int) := by omega
            have c1d : decide (i < m) = false := decide_eq_false c1
            go_wp2_with fail
            go_meet
            case rel => exact ⟨false, rfl, rfl, by simp [c1]⟩
        case rest =>
          obtain ⟨g1, rfl, rfl, hg1⟩ := hcut
          have HG1 : Hid _ := hg1
          clear hg1
          go_upto_if 185 with fail
          go_cut [] from 186 to 191 (fun wx => ∃ d1, SW encP w0 blk off d1 wx ∧ ((Rotated i m e d d1 ∧ i < m ∧ m < e) ∨ (d1 = d ∧ (i = m ∨ e = m))))
          case first =>
            have hg1 := HG1.out
            cases g1
            · have hz1 : ¬ (i < m ∧ m < e) := fun h => by have := hg1.2 h; cases this
              have S2 := S1.out
              clear hg1
              go_wp2_with fail
              go_meet
              case rel => exact ⟨d, S2, Or.inr ⟨rfl, by omega⟩⟩
            · have hz1 := hg1.1 rfl
              have hc := rotate_walk blk off cap i m e (.func (.func 34) #[] #[cb]) d0 d w0 wc R hs S1.out hz1.1 hz1.2 (by omega) hsz
              have HC : Aside _ := hc
              clear hc hg1
              go_wp2_with (go_at_call 46; refine Calls.mono HC.out ?_; rintro e w2 ⟨rfl, d2, S2, H2⟩)
              go_meet
              case rel => exact ⟨d2, S2, Or.inl ⟨H2, hz1⟩⟩
          case rest =>
            obtain ⟨d1, S2, hd1⟩ := hcut
            have S3 : Aside _ := S2
            have HV : Hid _ := HCut.out.halves T M.out hd1
            have e1 : Hid (d1.size = d.size) := psize HV.out.perm
            clear S1 S2 hd1
            go_upto_region 41 with fail
            go_cut [199] from 192 to 199 (fun t wx => ∃ g : Bool, t = .bool g ∧ wx = wc ∧ (g = true ↔ (a < i ∧ i < mid)))
            case first =>
              by_cases c1 : a < i
              · have c1z : (a : Int) < (i : Int) := by omega
                have c1d : decide (a < i) = true := decide_eq_true c1
                by_cases c2 : i < mid
                · have c2z : (i : Int) < (mid : Int) := by omega
                  have c2d : decide (i < mid) = true := decide_eq_true c2
                  go_wp2_with fail
                  go_meet
                  case rel => exact ⟨true, rfl, rfl, by simp [c1, c2]⟩
                · have c2z : ¬ (i : Int) < (mid : Int) := by omega
                  have c2d : decide (i < mid) = false := decide_eq_false c2
                  go_wp2_with fail
                  go_meet
                  case rel => exact ⟨false, rfl, rfl, by simp [c1, c2]⟩
              · have c1z : ¬ (a : Int) < (i : Int) := by omega
                have c1d : decide (a < i) = false := decide_eq_false c1
                go_wp2_with fail
                go_meet
                case rel => exact ⟨false, rfl, rfl, by simp [c1]⟩
            case rest =>
              obtain ⟨g2, rfl, rfl, hg2⟩ := hcut
              have HG2 : Hid _ := hg2
              clear hg2
              go_upto_if 199 with fail
              go_cut [] from 200 to 205 (fun wx => ∃ d2, SW encP w0 blk off d2 wx ∧ Mgd tt a mid d1 d2)
              case first =>
                have hg2 := HG2.out
                cases g2
                · have hz1 : ¬ (a < i ∧ i < mid) := fun h => by have := hg2.2 h; cases this
                  have S2 := S3.out
                  clear hg2
                  go_wp2_with fail
                  go_meet
                  case rel => exact ⟨d1, S2, HV.out.none1 HCut.out hz1⟩
                · have hz1 := hg2.1 rfl
                  have hc := IH.out a i mid d1 wc (by omega) e1.out S3.out (HV.out.first M.out HCut.out hz1.1 hz1.2)
                  unfold MrgC at hc
                  rw [e1.out] at hc
                  have HC : Aside _ := hc
                  clear hc hg2
                  go_wp2_with (go_at_call 45; refine Calls.mono HC.out ?_; rintro e w2 ⟨rfl, d2, S2, H2⟩)
                  go_meet
                  case rel => exact ⟨d2, S2, H2⟩
              case rest =>
                obtain ⟨d2, S2, hd2⟩ := hcut
                have S4 : Aside _ := S2
                have HD2 : Hid _ := hd2
                have e2 : Hid (d2.size = d.size) := (psize hd2.1).trans e1.out
                clear S2 S3 hd2
                go_upto_region 43 with fail
                go_cut [213] from 206 to 213 (fun t wx => ∃ g : Bool, t = .bool g ∧ wx = wc ∧ (g = true ↔ (mid < e ∧ e < b)))
                case first =>
                  by_cases c1 : mid < e
                  · have c1z : (mid : Int) < (e : Int) := by omega
                    have c1d : decide (mid < e) = true := decide_eq_true c1
                    by_cases c2 : e < b
                    · have c2z : (e : Int) < (b : Int) := by omega
                      have c2d : decide (e < b) = true := decide_eq_true c2
                      go_wp2_with fail
                      go_meet
                      case rel => exact ⟨true, rfl, rfl, by simp [c1, c2]⟩
                    · have c2z : ¬ (e : Int) < (b : Int) := by omega
                      have c2d : decide (e < b) = false := decide_eq_false c2
                      go_wp2_with fail
                      go_meet
                      case rel => exact ⟨false, rfl, rfl, by simp [c1, c2]⟩
                  · have c1z : ¬ (mid : Int) < (e : Int) := by omega
                    have c1d : decide (mid < e) = false := decide_eq_false c1
                    go_wp2_with fail
                    go_meet
                    case rel => exact ⟨false, rfl, rfl, by simp [c1]⟩
                case rest =>
                  obtain ⟨g3, rfl, rfl, hg3⟩ := hcut
                  have HG3 : Hid _ := hg3
                  clear hg3
                  go_upto_if 213 with fail
                  have hg3 := HG3.out
                  cases g3
                  · have hz1 : ¬ (mid < e ∧ e < b) := fun h => by have := hg3.2 h; cases this
                    have S2 := S4.out
                    clear hg3
                    go_wp2_with fail
                    go_end0
                    exact ⟨rfl, d2, S2, HV.out.done M.out HCut.out HD2.out (HV.out.none2 HCut.out HD2.out hz1)⟩
                  · have hz1 := hg3.1 rfl
                    have hc := IH.out mid e b d2 wc (by omega) e2.out S4.out (HV.out.second M.out HCut.out HD2.out hz1.1 hz1.2)
                    unfold MrgC at hc
                    rw [e2.out] at hc
                    have HC : Aside _ := hc
                    clear hc hg3
                    go_wp2_with (go_at_call 45; refine Calls.mono HC.out ?_; rintro e w2 ⟨rfl, d3, S2, H2⟩)
                    go_end0
                    exact ⟨rfl, d3, S2, HV.out.done M.out HCut.out HD2.out H2⟩

theorem symMerge_walk {N : Nat} {tt : Fin (N + 1) → Fin (N + 1) → Prop} {pl : Fin (N + 1) → Nat} {cf : Fin (N + 1) → Fin (N + 1) → Int} (T : Tot (ltOf cf) tt pl) (blk off cap sz : Nat) (cb : Value) (d0 : Array (Fin (N + 1))) (w0 : World) (R : Row1 encP w0 blk off d0) (hs : d0.size = sz)
    (C : Hid (CmpC N cb cf blk off sz w0)) (hsz : sz ≤ 1000) : ∀ (g a m b : Nat) (d : Array (Fin (N + 1))) (w : World), b - a ≤ g → d.size = sz → SW encP w0 blk off d w → Mrg tt pl a m b d → MrgC tt blk off cap cb w0 w a m b d
  | 0, a, m, b, d, w, hg, hd, S, M => by have := M.am; have := M.mb; omega
  | g + 1, a, m, b, d, w, hg, hd, S, M => by
    subst hd
    by_cases h1 : m = a + 1
    · exact symMerge1 T blk off cap a m b cb d0 d w0 w R hs S C M h1 hsz
    · by_cases h2 : b = m + 1
      · exact symMerge2 T blk off cap a m b cb d0 d w0 w R hs S C M h1 h2 hsz
      · exact symMerge3 T blk off cap a m b cb d0 d w0 w R hs S C M h1 h2 hsz fun a' m' b' d' w' hlt he S' M' => symMerge_walk T blk off cap d.size cb d0 w0 R hs C hsz g a' m' b' d' w' (by omega) he S' M'
end Go.Proofs.Ytkmoibikempieaa
