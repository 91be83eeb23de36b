/- Books and their model, side by side. -/
import Derived.Test.YtcdkgfjjgebcnaaDoorBookRef7
import Derived.Test.YtcdkgfjjgebcnaaDoorCode
import Derived.Test.YtcdkgfjjgebcnaaDoorBookDeed
namespace Go.Proofs.YtcdkgfjjgebcnaaDoor
open Go Go.RowKit
set_option linter.unusedVariables false

theorem over_ne {b : Int → Int → Int} : ∀ (l pre : List Ln), overL b pre l = false → ∀ x ∈ l, x.v ≠ -9223372036854775808 := by
  intro l
  induction l with
  | nil => intro _ _ x hx; cases hx
  | cons a r ih =>
    intro pre h x hx
    simp only [overL, Bool.or_eq_false_iff, decide_eq_false_iff_not] at h
    rcases List.mem_cons.1 hx with rfl | hx
    · exact h.1.2
    · exact ih _ h.2 x hx
theorem fine_post {s : Bk} {ls : List Ln} (h : Fine s) (hok : OkL ls) (hm : s.mayN ls = 0) : Fine (s.post ls) := by
  obtain ⟨m1, m2, m3, m4, m5, m6⟩ := mayN_zero hm
  refine ⟨fun x hx => ?_, inB_post h.b hm, mayAll_post h.may hm, wf_post h.wf, ?_, fun l hl => ?_⟩
  · rw [allL_post] at hx
    rcases List.mem_append.1 hx with hx | hx
    · exact h.v x hx
    · exact (hok x hx).2.2
  · rw [post_len]; omega
  · rcases List.mem_append.1 hl with hl | hl
    · exact h.row l hl
    · rw [List.mem_singleton.1 hl]
      exact ⟨m3, over_ne ls [] m6⟩
theorem fine_rev {s : Bk} {n : Int} (h : Fine s) (hr : s.revN n = 0) : Fine (s.rev n) := by
  have hm : s.mayN (turnL (s.L.getD n.toNat [])) = 0 := by
    unfold Bk.revN at hr
    split at hr
    · cases hr
    · split at hr
      · cases hr
      · exact hr
  have hin : n.toNat < s.L.length := by
    unfold Bk.revN at hr
    split at hr
    · cases hr
    · omega
  have hmem : s.L.getD n.toNat [] ∈ s.L := by simp [List.getD, hin]
  have hp := fine_post h (turn_ok h hmem).1 hm
  exact ⟨hp.v, inB_rev h.b hr, mayAll_rev h.may hr, wf_rev h.wf, hp.len, hp.row⟩
theorem mayN_le (s : Bk) (ls : List Ln) : s.mayN ls ≤ 8 := by
  unfold Bk.mayN
  repeat' split
  all_goals omega
theorem revN_le (s : Bk) (n : Int) : s.revN n ≤ 8 := by
  unfold Bk.revN
  split
  · omega
  · split
    · omega
    · exact mayN_le _ _

/-- what has turned is apart from K -/
def Apart (K : Nat → Prop) (W w' : World) : Prop := ∃ X : Nat → Prop, Only X W w' ∧ ∀ k, K k → ¬ X k

section
variable {B : (Nat → Prop) → Addr → Bk → World → Prop} {p : Addr} {s : Bk} {K : Nat → Prop} {w W W' : World} {g : Nat}

theorem BS.postA (C : BookC B) (h : BS B p s K w W) (a : Option Addr) (n c : Nat) (ls : List Ln) (hl : Given K w W a n ls) (hok : OkL ls) (hc : n ≤ c) (hm : c ≤ maxLen) (hn : n ≤ 1000) :
    Calls Tryd.prog 22 #[.pointer (some p), .slice a n c] W fun e w' => ∃ (pl : Int) (k : Nat) (s' : Bk), e = .returned (.tuple #[.int .i64 pl, errv (k : Int)]) ∧ BS B p s' K w w' ∧ PostRel s ls pl k s' ∧ Apart K W w' := by
  obtain ⟨⟨F, h1, h2, h3⟩, h4, h5⟩ := h
  refine (C.post a n c ls h1 hl.1 hok (fun x e => (hl.2 x e).elim Or.inl fun h => Or.inr fun hf => h.elim (fun h => by have := h2 _ hf; omega) (h3 _ hf)) hc hm hn).mono ?_
  rintro e w' ⟨ho, F', hF', ⟨g, rfl, hd⟩ | ⟨g, rfl, hd⟩⟩
  · obtain ⟨q1, -⟩ := BS.turn h2 h3 h4 h5 ho hF' hd
    exact ⟨_, 0, _, rfl, q1, ⟨g.symm, Or.inl ⟨rfl, rfl, rfl⟩⟩, F, ho, fun k hk hf => h3 k hf hk⟩
  · obtain ⟨q1, -⟩ := BS.turn h2 h3 h4 h5 ho hF' hd
    exact ⟨_, _, _, rfl, q1, ⟨rfl, Or.inr ⟨g, rfl, rfl⟩⟩, F, ho, fun k hk hf => h3 k hf hk⟩
theorem BS.reverseA (C : BookC B) (h : BS B p s K w W) (m : Int) (hm : in64 m) :
    Calls Tryd.prog 21 #[.pointer (some p), .int .i64 m] W fun e w' => ∃ (pl : Int) (k : Nat) (s' : Bk), e = .returned (.tuple #[.int .i64 pl, errv (k : Int)]) ∧ BS B p s' K w w' ∧ RevRel s m pl k s' ∧ Apart K W w' := by
  obtain ⟨⟨F, h1, h2, h3⟩, h4, h5⟩ := h
  refine (C.reverse m h1 hm).mono ?_
  rintro e w' ⟨ho, F', hF', ⟨g, rfl, hd⟩ | ⟨g, rfl, hd⟩⟩
  · obtain ⟨q1, -⟩ := BS.turn h2 h3 h4 h5 ho hF' hd
    exact ⟨_, 0, _, rfl, q1, ⟨g.symm, Or.inl ⟨rfl, rfl, rfl⟩⟩, F, ho, fun k hk hf => h3 k hf hk⟩
  · obtain ⟨q1, -⟩ := BS.turn h2 h3 h4 h5 ho hF' hd
    exact ⟨_, _, _, rfl, q1, ⟨rfl, Or.inr ⟨g, rfl, rfl⟩⟩, F, ho, fun k hk hf => h3 k hf hk⟩
/-- the model has turned -/
theorem BS.modelled (C : BookC B) (T : Kin w) (h : BS B p s K w W) (ho : Only K W W') : BS B p s (PlusK K W W') w W' := by
  obtain ⟨⟨F, h1, h2, h3⟩, h4, h5⟩ := h
  refine ⟨⟨F, C.keep h1 ho (fun k hk hf => h3 k hf hk) (T.of (h4.trans (ho.below h4.size fun k hk => (h5 k hk).1))), h2, fun k hf hk => ?_⟩, h4.trans (ho.below h4.size fun k hk => (h5 k hk).1), fun k hk => ?_⟩
  · rcases hk with hk | hk
    · exact h3 k hf hk
    · have := C.lt h1 k hf; omega
  · rcases hk with hk | hk
    · exact ⟨(h5 k hk).1, Nat.lt_of_lt_of_le (h5 k hk).2 ho.size⟩
    · exact ⟨Nat.le_trans h4.size hk.1, hk.2⟩

/-- books, their model as they stand, and that is well -/
structure BM (B : (Nat → Prop) → Addr → Bk → World → Prop) (p : Addr) (g : Nat) (s : Bk) (K : Nat → Prop) (w W : World) : Prop where
  bs : BS B p s K w W
  mb : MBook K g s W
  fine : Fine s
theorem BM.up (C : BookC B) (h : BM B p g s K w W) (hb : Below W.heap.size W W') : BM B p g s K w W' := ⟨h.bs.up C hb, h.mb.up hb, h.fine⟩
theorem BM.drew (C : BookC B) (h : BM B p g s K w W) : BM B p g s K w W.drew := h.up C (Below.refl _ _).drew
end

section
variable {B : (Nat → Prop) → Addr → Bk → World → Prop} {p : Addr} {s : Bk} {K : Nat → Prop} {w W W' : World} {g : Nat}

theorem BM.box (C : BookC B) (h : BM B p g s K w W) (hb : Below W.heap.size W W') : BM B p g s (PlusK K W W') w W' :=
  ⟨h.bs.more C hb, (h.mb.up hb).mono (fun k hk => Or.inl hk) (fun k hk => hk.elim (fun hk => Nat.lt_of_lt_of_le (h.mb.lt k hk) hb.size) (·.2)), h.fine⟩
theorem Apart.cell (h : Apart K W W') {x : Addr} (hK : K x.block) (hx : x.block < W.heap.size) : W'.cell? x = W.cell? x := by
  obtain ⟨X, ho, hX⟩ := h
  exact World.cell?_of_block (ho.block _ hx (hX _ hK))
theorem Apart.mb (h : Apart K W W') {M : Nat → Prop} (hm : MBook M g s W) (hK : ∀ k, M k → K k) : MBook M g s W' := by
  obtain ⟨X, ho, hX⟩ := h
  exact hm.only ho fun k hk => hX k (hK k hk)
/-- the model has turned as well -/
theorem BS.both (C : BookC B) (T : Kin w) {s' : Bk} {W2 W3 : World} (h : BS B p s' K w W) (hb : Below W.heap.size W W2) (ho : Only K W2 W3) (hm : MBook (PlusK K W2 W3) g s' W3) (hf : Fine s') : BM B p g s' (PlusK K W2 W3) w W3 :=
  ⟨(h.up C hb).modelled C T ho, hm, hf⟩
end

theorem postRel_ok {s s' : Bk} {ls : List Ln} {pl : Int} {k : Nat} (h : PostRel s ls pl k s') (hm : s.mayN ls = 0) : k = 0 ∧ pl = (s.L.length : Int) ∧ s' = s.post ls := by
  obtain ⟨h1, h2 | h2⟩ := h
  · exact h2
  · exact absurd (h1.trans hm) h2.1
theorem postRel_no {s s' : Bk} {ls : List Ln} {pl : Int} {k : Nat} (h : PostRel s ls pl k s') (hm : s.mayN ls ≠ 0) : k = s.mayN ls ∧ pl = 0 ∧ s' = s := by
  obtain ⟨h1, h2 | h2⟩ := h
  · exact absurd (h1.symm.trans h2.1) hm
  · exact ⟨h1, h2.2⟩
theorem revRel_ok {s s' : Bk} {n : Int} {pl : Int} {k : Nat} (h : RevRel s n pl k s') (hm : s.revN n = 0) : k = 0 ∧ pl = (s.L.length : Int) ∧ s' = s.rev n := by
  obtain ⟨h1, h2 | h2⟩ := h
  · exact h2
  · exact absurd (h1.trans hm) h2.1
theorem revRel_no {s s' : Bk} {n : Int} {pl : Int} {k : Nat} (h : RevRel s n pl k s') (hm : s.revN n ≠ 0) : k = s.revN n ∧ pl = 0 ∧ s' = s := by
  obtain ⟨h1, h2 | h2⟩ := h
  · exact absurd (h1.symm.trans h2.1) hm
  · exact ⟨h1, h2.2⟩
theorem mayN_room {s : Bk} {ls : List Ln} (h : s.mayN ls = 0) : s.L.length < 4096 := (mayN_zero h).1
theorem rev_len {s : Bk} {n : Int} : (s.rev n).L.length = s.L.length + 1 := post_len s _

/-- what a deed comes to -/
theorem len_back (n : Nat) (h : n ≤ 4096) : IntKind.i64.wrap (((n + 1 : Nat) : Int) - 1) = (n : Int) ∧ IntKind.i64.wrap ((n : Int) + 1 - 1) = (n : Int) := by
  constructor
  · rw [IntWalk.i64_in _ (by omega)]; omega
  · rw [IntWalk.i64_in _ (by omega)]; omega

set_option maxRecDepth 100000 in
set_option maxHeartbeats 8000000 in
theorem one10_any {B : (Nat → Prop) → Addr → Bk → World → Prop} (C : Hid (BookC B)) (p : Addr) (g : Nat) (s : Bk) (K : Nat → Prop) (w W : World) (T : Hid (Kin w)) (k n : Int) (a : Option Addr) (m c : Nat) (ls : List Ln) (hB : BM B p g s K w W) (hk : in64 k) (hn : in64 n) (hl : LinesAt w a m ls) (hok : OkL ls)
    (hm : m ≤ 1000) (hmc : m ≤ c) (hcm : c ≤ maxLen) (hna : a = none → c = 0) :
    Calls Tryd.prog 12 #[.pointer (some p), .pointer (some ⟨g, 0, none⟩), .agg #[.int .i64 k, .int .i64 n, .slice a m c]] W fun e w' => e = .returned (.bool true) ∧ ∃ s' K', BM B p g s' K' w w' := by
  have hbox : Below W.heap.size W (W.alloc (Obj.cells #[.int .i64 k, .int .i64 n, .slice a m c] 37)) := (Below.refl _ _).alloc (Nat.le_refl _) _
  obtain ⟨W1, hW1⟩ : ∃ W1, W1 = W.alloc (Obj.cells #[.int .i64 k, .int .i64 n, .slice a m c] 37) := ⟨_, rfl⟩
  rw [← hW1] at hbox
  obtain ⟨bx, hbx⟩ : ∃ bx, bx = W.heap.size := ⟨_, rfl⟩
  have hlt : bx < W1.heap.size := by rw [hbx, hW1]; simp
  have x0 : W1.cell? ⟨bx, 0, none⟩ = some (.int .i64 k) := by rw [hbx, hW1]; simp
  have x1 : W1.cell? ⟨bx, 1, none⟩ = some (.int .i64 n) := by rw [hbx, hW1]; simp
  have x2 : W1.cell? ⟨bx, 2, none⟩ = some (.slice a m c) := by rw [hbx, hW1]; simp
  obtain ⟨K1, hK1⟩ : ∃ K1 : Nat → Prop, K1 = PlusK K W W1 := ⟨_, rfl⟩
  have HKB : Hid (K1 bx) := by rw [hK1, hbx]; exact Or.inr ⟨Nat.le_refl _, by rw [← hbx]; exact hlt⟩
  have HOK := Lib.hid hok
  have HN := Lib.hid hn
  have HKK := Lib.hid hk
  have HNA := Lib.hid hna
  have HCM := Lib.hid hcm
  have HL := Lib.hid hl
  have h4096 := hB.fine.len
  have HD : Hid (s.done.length ≤ 4096) := by have := hB.fine.wf; unfold Bk.wf at this; show _ ≤ _; omega
  have HH := Lib.hid (hK1 ▸ hB.box C.out hbox : BM B p g s K1 w W1)
  clear hB hk hn hl hok hcm hna hbox hK1
  go_enter Tryd.func12, Tryd.ntmps12
  go_wp2_with fail
  rw [← hW1, ← hbx]
  clear hW1 hbx
  refine (pick10_any k 3 W1 HKK.out (by omega) (by omega)).mono ?_
  rintro e w1 ⟨rfl, hw1⟩
  subst w1
  obtain ⟨pk, hpk⟩ : ∃ pk, pickB k 3 = pk := ⟨_, rfl⟩
  rw [hpk]
  clear hpk
  by_cases h2 : pk = 2
  · subst h2
    go_wp2_with fail
    refine (HH.out.bs.reverseA C.out n HN.out).mono ?_
    rintro e w2 ⟨pl, k2, s', rfl, hS, hrel, hA⟩
    have HS := Lib.hid hS
    have HM := Lib.hid (hA.mb HH.out.mb fun k hk => hk)
    have y1 : w2.cell? ⟨bx, 1, none⟩ = some (.int .i64 n) := (hA.cell (x := ⟨bx, 1, none⟩) HKB.out hlt).trans x1
    clear hS hA
    go_wp2_with fail
    refine (refReverse10_any K1 g s n w2 HM.out HH.out.fine HN.out).mono ?_
    rintro e w3 ⟨rfl, ho, hmb⟩
    have hr8 := revN_le s n
    by_cases hr : s.revN n = 0
    · obtain ⟨rfl, rfl, rfl⟩ := revRel_ok hrel hr
      rw [show revS s n = s.rev n by unfold revS; rw [if_pos hr]] at hmb
      have HB3 := Lib.hid (HS.out.both C.out T.out (Below.refl _ _) ho hmb (fine_rev HH.out.fine hr))
      obtain ⟨aL, cL, aD, cD, q0, -, q1, -⟩ := hmb.head
      rw [rev_len] at q0 q1
      obtain ⟨z1, z2⟩ := len_back s.L.length h4096
      rw [hr]
      clear ho hmb hrel hr8
      go_wp2_with fail
      refine (code_any 0 (by omega) _).mono ?_
      rintro e w4 ⟨rfl, hw⟩
      subst w4
      go_wp2_with fail
      go_ret
      exact ⟨by first | rfl | simp, _, _, HB3.out⟩
    · obtain ⟨rfl, rfl, rfl⟩ := revRel_no hrel hr
      rw [show revS s' n = s' by unfold revS; rw [if_neg hr]] at hmb
      have HB3 := Lib.hid (HS.out.both C.out T.out (Below.refl _ _) ho hmb HH.out.fine)
      obtain ⟨r, hre⟩ : ∃ r, s'.revN n = r := ⟨_, rfl⟩
      rw [hre] at hr hr8 ⊢
      have t1 : ((r : Int) == 0) = false := by simp; omega
      have t2 : ¬ (r : Int) = 0 := by omega
      clear ho hmb hrel hre
      go_wp2_with fail
      refine (code_any r hr8 _).mono ?_
      rintro e w4 ⟨rfl, hw⟩
      subst w4
      go_wp2_with fail
      go_ret
      exact ⟨by first | rfl | simp, _, _, HB3.out⟩
  · have t0 : ((pk : Int) == 2) = false := by simp; omega
    have HG := Lib.hid (Given.old (K := K1) HH.out.bs.below HL.out)
    go_wp2_with fail
    refine (HH.out.bs.postA C.out a m c ls HG.out HOK.out hmc HCM.out hm).mono ?_
    rintro e w2 ⟨pl, k2, s', rfl, hS, hrel, hA⟩
    have HS := Lib.hid hS
    have HM := Lib.hid (hA.mb HH.out.mb fun k hk => hk)
    have y2 : w2.cell? ⟨bx, 2, none⟩ = some (.slice a m c) := (hA.cell (x := ⟨bx, 2, none⟩) HKB.out hlt).trans x2
    have hlt2 : bx < w2.heap.size := (hS.klt bx HKB.out).2
    have HL2 := Lib.hid ((Given.old (K := K1) hS.below HL.out).1)
    clear hS hA
    go_wp2_with fail
    refine (refMay10_any K1 g s a m c ls w2 HM.out HH.out.fine HL2.out HOK.out hm hmc HCM.out).mono ?_
    rintro e w3 ⟨rfl, hb3⟩
    have HB3 := Lib.hid hb3
    have y3 : w3.cell? ⟨bx, 2, none⟩ = some (.slice a m c) := (hb3.cell (p := ⟨bx, 2, none⟩) hlt2).trans y2
    have HM3 := Lib.hid (HM.out.up hb3)
    have HL3 := Lib.hid (HL2.out.up hb3)
    have hr8 := mayN_le s ls
    clear hb3
    by_cases hr : s.mayN ls = 0
    · obtain ⟨rfl, rfl, rfl⟩ := postRel_ok hrel hr
      obtain ⟨z1, z2⟩ := len_back s.L.length h4096
      rw [hr]
      have HF := Lib.hid (fine_post HH.out.fine HOK.out hr)
      clear hrel hr8
      go_wp2_with fail
      refine (refPost10_any K1 g s a m c ls w3 HM3.out HL3.out HNA.out h4096 HD.out hm).mono ?_
      rintro e w4 ⟨rfl, ho, hmb⟩
      have HB4 := Lib.hid (HS.out.both C.out T.out HB3.out ho hmb HF.out)
      obtain ⟨aL, cL, aD, cD, q0, -, q1, -⟩ := hmb.head
      rw [post_len] at q0 q1
      clear ho hmb
      go_wp2_with fail
      refine (code_any 0 (by omega) _).mono ?_
      rintro e w5 ⟨rfl, hw⟩
      subst w5
      go_wp2_with fail
      go_ret
      exact ⟨by first | rfl | simp, _, _, HB4.out⟩
    · obtain ⟨rfl, rfl, rfl⟩ := postRel_no hrel hr
      have HB4 : Hid (BM B p g s' K1 w w3) := ⟨HS.out.up C.out HB3.out, HM3.out, HH.out.fine⟩
      obtain ⟨r, hre⟩ : ∃ r, s'.mayN ls = r := ⟨_, rfl⟩
      rw [hre] at hr hr8 ⊢
      have t1 : ((r : Int) == 0) = false := by simp; omega
      have t2 : ¬ (r : Int) = 0 := by omega
      clear hrel hre
      go_wp2_with fail
      refine (code_any r hr8 _).mono ?_
      rintro e w4 ⟨rfl, hw⟩
      subst w4
      go_wp2_with fail
      go_ret
      exact ⟨by first | rfl | simp, _, _, HB4.out⟩
end Go.Proofs.YtcdkgfjjgebcnaaDoor
