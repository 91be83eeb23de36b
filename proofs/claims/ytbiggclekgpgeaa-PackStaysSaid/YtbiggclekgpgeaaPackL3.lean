/- The walk of PackBack: what was put is got as it was; what was got is put as those bytes; no beginning of a command's bytes is one's, nor are they with more behind. -/
import Derived.Test.YtbiggclekgpgeaaPackC
import Derived.Test.YtbiggclekgpgeaaMine
namespace Go.Proofs.Ytbiggclekgpgeaa
open Go Go.RowKit
set_option linter.unusedVariables false

theorem noCmd_take {k y l : Int} {N : List Int} {i : Nat} (hi : i < (putB k y l N).length) : NoCmd ((putB k y l N).take i) := by
  intro k' y' l' N' hok e
  have h : putB k y l N ++ [] = putB k' y' l' N' ++ (putB k y l N).drop i := by rw [← e, List.take_append_drop, List.append_nil]
  have h2 := (putB_prefix h).2.2.2.2
  have := congrArg List.length h2
  simp only [List.length_drop, List.length_nil] at this
  omega
theorem noCmd_more {k y l : Int} {N : List Int} (m : Nat) : NoCmd (putB k y l N ++ [m]) := by
  intro k' y' l' N' hok e
  have h : putB k y l N ++ [m] = putB k' y' l' N' ++ [] := by rw [e, List.append_nil]
  have h2 := (putB_prefix h).2.2.2.2
  simp at h2

theorem putB_le {k y l : Int} {N : List Int} (h : okC k y l N) : (putB k y l N).length ≤ 200 := by
  have h1 := allB_len (cmdL k y l N) (cmdL_64 h)
  have h2 : putB k y l N = allB (cmdL k y l N) := rfl
  rw [h2]
  have h3 := h.2.2.2.1
  simp only [cmdL, List.length_cons] at h1 ⊢
  omega
theorem putB_byte (k y l : Int) (N : List Int) : ∀ b ∈ putB k y l N, b < 256 := allB_byte _

theorem cells_take {w : World} {a : Option Addr} {n : Nat} {bs : List Nat} (h : Cells w a n (bs.map b8)) {i : Nat} (hi : i ≤ n) : Cells w a i ((bs.take i).map b8) := by
  obtain ⟨h1, h2⟩ := h
  rw [List.length_map] at h1
  refine ⟨by rw [List.length_map, List.length_take]; omega, ?_⟩
  by_cases h0 : i = 0
  · exact Or.inl h0
  · rcases h2 with h2 | ⟨b, off, e, hc⟩
    · omega
    · refine Or.inr ⟨b, off, e, fun j hj => ?_⟩
      rw [hc j (by omega)]
      simp [List.getD, hj]

set_option maxRecDepth 100000 in
set_option maxHeartbeats 16000000 in
theorem packBack_walk (PC : Hid PackC) (k y l : Int) (a : Option Addr) (n c : Nat) (N : List Int) (ab : Option Addr) (nb cb : Nat) (bs : List Nat) (i : Int) (mo : Nat) (w : World)
    (hk : i64 k) (hy : i64 y) (hl : i64 l) (hN : Elems w a n N) (hc : n ≤ c) (hb : Cells w ab nb (bs.map b8)) (h256 : ∀ b ∈ bs, b < 256) (hcb : nb ≤ cb) (hmb : cb ≤ maxLen) (hi : i64 i) (hmo : mo < 256) :
    Calls Try.prog 5 #[cmdV k y l (.slice a n c), .slice ab nb cb, .int .i64 i, .int .u8 (mo : Int)] w fun e w' => e = .returned (.bool true) ∧ Below w.heap.size w w' := by
  have rd := fun (w : World) (k : Int) => run_eql_code w k k
  have HB : Hid (Below w.heap.size w (w.alloc (Obj.cells #[.int .i64 k, .int .i64 y, .int .i64 l, .slice a n c] 24))) := (Below.refl _ _).alloc (Nat.le_refl _) _
  have HA := Lib.hid (CmdAt.new w k y l (.slice a n c))
  have HE : Hid (∀ W, Below w.heap.size w W → Elems W a n N) := fun W hW => hN.upB hW
  have HC : Hid (∀ W, Below w.heap.size w W → Cells W ab nb (bs.map b8)) := fun W hW => hb.upB hW
  have H256 := Lib.hid h256
  have HM := Lib.hid hmb
  have HI := Lib.hid (And.intro hk (And.intro hy hl))
  have HNL := Lib.hid hN.1
  have HN64 := Lib.hid hN.2.1
  clear hk hy hl hN hb h256 hmb
  go_enter Try.func5, Try.ntmps5
  go_wp2_with fail
  refine (up06_any PC _).mono ?_
  rintro e w1 ⟨rfl, hb1⟩
  have HB1 := Lib.hid (HB.out.trans (hb1.mono HB.out.size))
  have HA1 := Lib.hid (HA.out.call hb1)
  obtain ⟨p0, p1, p2, p3, -, -⟩ := HA1.out
  clear hb1 HB HA
  by_cases hbig : 16 < n ∨ (n ≤ 16 ∧ 1000 < nb)
  · rcases hbig with h | ⟨h, h'⟩
    · have t1 : (16 : Int) < (n : Int) := by omega
      go_wp2_with fail
      go_ret
      exact ⟨rfl, HB1.out⟩
    · have t1 : (n : Int) ≤ 16 := by omega
      have t2 : (1000 : Int) < (nb : Int) := by omega
      go_wp2_with fail
      go_ret
      exact ⟨rfl, HB1.out⟩
  have h16 : n ≤ 16 := by omega
  have hnb : nb ≤ 1000 := by omega
  have t1 : (n : Int) ≤ 16 := by omega
  have t2 : (nb : Int) ≤ 1000 := by omega
  have HOK : Hid (okC k y l N) := ⟨HI.out.1, HI.out.2.1, HI.out.2.2, by rw [HNL.out]; exact h16, HN64.out⟩
  clear hbig
  go_wp2_with fail
  refine (PC.out.put k y l a n c N _ HI.out.1 HI.out.2.1 HI.out.2.2 (HE.out _ HB1.out) (by omega) hc).mono ?_
  rintro e w2 ⟨hb2, ⟨_, v, rfl, ho⟩ | ⟨h, _⟩⟩
  rotate_left
  · omega
  have HB2 := Lib.hid (HB1.out.trans (hb2.mono HB1.out.size))
  have HA2 := Lib.hid (HA1.out.call hb2)
  obtain ⟨pa, pc, rfl, hcl, hpn, -, -⟩ := own_bytes ho
  obtain ⟨hpc1, hpc2⟩ := own_cap ho
  obtain ⟨P, hP⟩ : ∃ P, putB k y l N = P := ⟨_, rfl⟩
  have hPl := putB_le HOK.out
  have hP4 := putB_len k y l N
  have hP256 := putB_byte k y l N
  rw [hP] at ho hcl hpc1 hPl hP4 hP256 ⊢
  obtain ⟨m, hm⟩ : ∃ m, P.length = m := ⟨_, rfl⟩
  rw [hm] at ho hcl hpc1 hPl hP4 ⊢
  have HPP := Lib.hid hP
  have HML := Lib.hid hm
  have HP256 := Lib.hid hP256
  have HPC := Lib.hid hpc2
  have HPN := Lib.hid hpn
  have HP : Hid (∀ W, Below w2.heap.size w2 W → Cells W pa m (P.map b8)) := fun W hW => hcl.upB hW
  clear hb2 ho hcl hP hm hP256 HB1 HA1 p0 p1 p2 p3 hpc2 hpn
  obtain ⟨p0, p1, p2, p3, -, -⟩ := HA2.out
  go_wp2_with fail
  refine (PC.out.get pa m pc P _ (HP.out _ (Below.refl _ _)) HP256.out (by omega) hpc1 HPC.out).mono ?_
  rintro e w3 ⟨hb3, ⟨k', y', l', N', a1, c1, hok', he', hel', -, -, rfl⟩ | ⟨hno, _⟩⟩
  rotate_left
  · exact absurd HPP.out.symm (hno k y l N HOK.out)
  have hp := putB_prefix (k := k) (y := y) (l := l) (N := N) (k' := k') (y' := y') (l' := l') (N' := N') (r := []) (s := []) (by rw [List.append_nil, List.append_nil, HPP.out, ← he'])
  obtain ⟨rfl, rfl, rfl, rfl, -⟩ := hp
  have HT3 := Lib.hid (hb3.alloc hb3.size (Obj.cells #[.int .i64 k, .int .i64 y, .int .i64 l, .slice a1 N.length c1] 24))
  have HB3 := Lib.hid (HB2.out.trans (HT3.out.mono HB2.out.size))
  have HA3 := Lib.hid (HA2.out.call HT3.out)
  have HX3 := Lib.hid (CmdAt.new w3 k y l (.slice a1 N.length c1))
  have HL3 := Lib.hid (hel'.upB ((Below.refl w3.heap.size w3).alloc (Nat.le_refl _) (Obj.cells #[.int .i64 k, .int .i64 y, .int .i64 l, .slice a1 N.length c1] 24)))
  clear hb3 hok' he' hel' HA2 p0 p1 p2 p3
  obtain ⟨p0, p1, p2, p3, -, -⟩ := HA3.out
  obtain ⟨q0, q1, q2, q3, -, -⟩ := HX3.out
  go_wp2_with fail
  refine (refSame_any k y l a a1 n N.length c c1 N _ (HE.out _ HB3.out) HL3.out (by omega)).mono ?_
  rintro e w4 ⟨rfl, hb4⟩
  have HT4 := Lib.hid (HT3.out.trans (hb4.mono HT3.out.size))
  have HB4 := Lib.hid (HB2.out.trans (HT4.out.mono HB2.out.size))
  have tm : ((m : Int) == 0) = false := by simp; omega
  clear hb4 HB3 HA3 HX3 HL3 p0 p1 p2 p3 q0 q1 q2 q3 HT3
  obtain ⟨nn, hnn, hn0, hn1⟩ : ∃ nn : Int, (nn = if i < 0 then -(i + 1) else i) ∧ 0 ≤ nn ∧ nn ≤ 9223372036854775807 := by
    obtain ⟨h1, h2⟩ := hi
    refine ⟨_, rfl, ?_, ?_⟩ <;> split <;> omega
  obtain ⟨r, hr, hrm⟩ : ∃ r : Nat, nn % (m : Int) = (r : Int) ∧ r < m := by
    have h1 := Int.emod_nonneg nn (show (m : Int) ≠ 0 by omega)
    have h2 := Int.emod_lt_of_pos nn (show 0 < (m : Int) by omega)
    exact ⟨(nn % (m : Int)).toNat, by omega, by omega⟩
  have hi2 := hi.2
  have hi1 := hi.1
  have HNN := Lib.hid hnn
  have tr1 : (0 : Int) ≤ (r : Int) := by omega
  have tr2 : (r : Int) ≤ (pc : Int) := by omega
  have tm0 : (0 : Int) < (m : Int) := by omega
  have tm1 : ((m : Int) == 0) = false := tm
  clear hnn hi
  by_cases hneg : i < 0
  all_goals
    have hin := HNN.out
    first
      | rw [if_pos hneg] at hin
      | rw [if_neg hneg] at hin
    first
      | (have e1 : -(i + 1) = nn := hin.symm; clear hin)
      | (subst hin)
    go_wp2_with fail
    refine (PC.out.get pa r pc (P.take r) _ (cells_take (HP.out _ HT4.out) (by omega)) (fun b hb => HP256.out b (List.mem_of_mem_take hb)) (by omega) (by omega) HPC.out).mono ?_
    rintro e w5 ⟨hb5, ⟨k5, y5, l5, N5, _, _, hok5, he5, _⟩ | ⟨_, a5, c5, rfl⟩⟩
    · have h := noCmd_take (k := k) (y := y) (l := l) (N := N) (i := r) (by rw [HPP.out, HML.out]; exact hrm)
      rw [HPP.out] at h
      exact absurd he5 (h _ _ _ _ hok5)
    have HT5 := Lib.hid (HT4.out.trans ((hb5.alloc hb5.size (Obj.cells #[.int .i64 0, .int .i64 0, .int .i64 0, .slice a5 0 c5] 24)).mono HT4.out.size))
    clear hb5
    have hsz5 : w2.heap.size ≤ (w5.alloc (Obj.cells #[.int .i64 0, .int .i64 0, .int .i64 0, .slice a5 0 c5] 24)).heap.size := HT5.out.size
    have HT6 := Lib.hid (HT5.out.alloc hsz5 (Obj.cells #[] 5))
    have HO6 : Hid (((w5.alloc (Obj.cells #[.int .i64 0, .int .i64 0, .int .i64 0, .slice a5 0 c5] 24)).alloc (Obj.cells #[] 5)).ownsRow (w5.heap.size + 1) 5 1 (.slice (some ⟨w5.heap.size + 1, 0, none⟩) 0 0) 0 (([] : List Nat).map b8)) := by
      have h := World.ownsRow_lit (base := w5.heap.size + 1) (e := 5) (size := 1) (w5.alloc (Obj.cells #[.int .i64 0, .int .i64 0, .int .i64 0, .slice a5 0 c5] 24)) #[] 0 (by simp) (by decide) rfl
      rw [World.size_alloc] at h
      exact h
    have HPC6 := Lib.hid (HP.out _ HT6.out)
    have M6 : Hid (0 + m ≤ maxLen) := by show 0 + m ≤ maxLen; simp only [maxLen]; omega
    have M7 : Hid (0 + m + 1 ≤ maxLen) := by show 0 + m + 1 ≤ maxLen; simp only [maxLen]; omega
    go_wp2_with (first
      | (at_builtin; refine wpList_append_cells rfl (.tmp 76) (.tmp 77) 26 rfl (w5.heap.size + 1) Tu8 _ 0 _ rfl HO6.out pa m pc _ rfl HPN.out HPC6.out (b8_one _) M6.out (by omega) (by simp) ?_; intro v6 w6 o6 q6 r6 l6; rw [b8_append, List.nil_append] at o6; have HT7 := Lib.hid (HT6.out.grown q6 HT6.out.size (fun z hz => by have := (HO6.out.lt z hz).1; simp only [World.size_alloc] at hsz5; omega)); have HG6 := Lib.hid (And.intro o6 q6.size); clear o6 q6 r6 l6)
      | (at_builtin; refine wpList_append_cells rfl (.tmp 78) (.tmp 80) 26 rfl (w5.heap.size + 1) Tu8 v6 (0 + m) _ rfl (HG6.out.1.alloc _) (some ⟨_, 0, none⟩) 1 1 [b8 mo] rfl (fun h => by cases h) (one_new _ _ _) (b8_one [mo]) M7.out (by omega) (by have := HG6.out.2; simp only [World.size_alloc] at this ⊢; omega) ?_; intro v7 w7 o7 q7 r7 l7; rw [b8_snoc] at o7; have HT8 := Lib.hid ((HT7.out.alloc HT7.out.size (Obj.cells #[.int .u8 (mo : Int)] 5)).grown q7 (by have := HT7.out.size; simp only [World.size_alloc]; omega) (fun z hz => by have := (HG6.out.1.lt z hz).1; simp only [World.size_alloc] at hsz5; omega)); obtain ⟨a7, c7, rfl, hcl7, -, -, -⟩ := own_bytes o7; have HC7 := Lib.hid (And.intro hcl7 (own_cap o7)); clear o7 q7 r7 l7 hcl7))
    refine (PC.out.get a7 (m + 1) c7 (P ++ [mo]) _ (by have := HC7.out.1; rwa [Nat.zero_add] at this) (fun b hb => by
      rcases List.mem_append.1 hb with h | h
      · exact HP256.out b h
      · rw [List.mem_singleton.1 h]; exact hmo) (by omega) (by have := HC7.out.2.1; omega) HC7.out.2.2).mono ?_
    rintro e w8 ⟨hb8, ⟨k8, y8, l8, N8, _, _, hok8, he8, _⟩ | ⟨_, a8, c8, rfl⟩⟩
    · have h := noCmd_more (k := k) (y := y) (l := l) (N := N) mo
      rw [HPP.out] at h
      exact absurd he8 (h _ _ _ _ hok8)
    have HT9 := Lib.hid (HT8.out.trans ((hb8.alloc hb8.size (Obj.cells #[.int .i64 0, .int .i64 0, .int .i64 0, .slice a8 0 c8] 24)).mono HT8.out.size))
    have HB9 := Lib.hid (HB2.out.trans (HT9.out.mono HB2.out.size))
    clear hb8
    go_wp2_with fail
    refine (PC.out.get ab nb cb bs _ (HC.out _ HB9.out) H256.out (by omega) hcb HM.out).mono ?_
    rintro e w10 ⟨hb10, ⟨k9, y9, l9, N9, a9, c9, hok9, he9, hel9, -, hc9, rfl⟩ | ⟨hno9, a9, c9, rfl⟩⟩
    · have hb11 := hb10.alloc hb10.size (Obj.cells #[.int .i64 k9, .int .i64 y9, .int .i64 l9, .slice a9 N9.length c9] 24)
      have HB11 := Lib.hid (HB9.out.trans (hb11.mono HB9.out.size))
      have HX11 := Lib.hid (CmdAt.new w10 k9 y9 l9 (.slice a9 N9.length c9))
      have HL11 := Lib.hid (hel9.upB ((Below.refl w10.heap.size w10).alloc (Nat.le_refl _) (Obj.cells #[.int .i64 k9, .int .i64 y9, .int .i64 l9, .slice a9 N9.length c9] 24)))
      have HO9 := Lib.hid (And.intro hok9 he9)
      have h916 := hok9.2.2.2.1
      clear hb10 hb11 hok9 he9 hel9
      obtain ⟨q0, q1, q2, q3, -, -⟩ := HX11.out
      go_wp2_with fail
      refine (PC.out.put k9 y9 l9 a9 N9.length c9 N9 _ HO9.out.1.1 HO9.out.1.2.1 HO9.out.1.2.2.1 HL11.out (by omega) hc9).mono ?_
      rintro e w12 ⟨hb12, ⟨_, v12, rfl, ho12⟩ | ⟨h, _⟩⟩
      rotate_left
      · omega
      rw [← HO9.out.2] at ho12
      obtain ⟨a12, c12, rfl, hcl12, -, -, -⟩ := own_bytes ho12
      have HB12 := Lib.hid (HB11.out.trans (hb12.mono HB11.out.size))
      have rs1 := run_str_row (c := c12) hcl12
      have rs2 := run_str_row (c := cb) (HC.out _ HB12.out)
      have hst : ((strB bs).toList == (strB bs).toList) = true := strB_same _
      clear hb12 ho12 hcl12
      go_wp2_with fail
      go_ret
      exact ⟨by simp, HB12.out⟩
    · have hb11 := hb10.alloc hb10.size (Obj.cells #[.int .i64 0, .int .i64 0, .int .i64 0, .slice a9 0 c9] 24)
      have HB11 := Lib.hid (HB9.out.trans (hb11.mono HB9.out.size))
      clear hb10 hb11 hno9
      go_wp2_with fail
      go_ret
      exact ⟨by simp, HB11.out⟩
end Go.Proofs.Ytbiggclekgpgeaa
