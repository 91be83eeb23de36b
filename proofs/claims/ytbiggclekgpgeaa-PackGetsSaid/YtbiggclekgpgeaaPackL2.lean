/- The walk of PackGets: the command of any bytes, or that they are none's. -/
import Derived.Test.YtbiggclekgpgeaaPackC
import Derived.Deep.RegionHeld3
namespace Go.Proofs.Ytbiggclekgpgeaa
open Go Go.RowKit
set_option linter.unusedVariables false

set_option maxRecDepth 100000 in
set_option maxHeartbeats 8000000 in
theorem packGets_walk (PC : Hid PackC) (a : Option Addr) (n c : Nat) (bs : List Nat) (w : World) (hb : Cells w a n (bs.map b8)) (h256 : ∀ b ∈ bs, b < 256) (hc : n ≤ c) (hm : c ≤ maxLen) :
    Calls Try.prog 4 #[.slice a n c] w fun e w' => e = .returned (.bool true) ∧ Below w.heap.size w w' := by
  have rd := fun (w : World) (k : Int) => run_eql_code w k k
  have rb0 := build_cmd0
  have HC : Hid (∀ W, Below w.heap.size w W → Cells W a n (bs.map b8)) := fun W hW => hb.upB hW
  have H256 := Lib.hid h256
  have HM := Lib.hid hm
  clear hb h256 hm
  go_enter Try.func4, Try.ntmps4
  go_wp2_with fail
  refine (up06_any PC _).mono ?_
  rintro e w1 ⟨rfl, hb1⟩
  have HB1 := Lib.hid hb1
  clear hb1
  by_cases h1000 : 1000 < n
  · have t1 : (1000 : Int) < (n : Int) := by omega
    go_wp2_with fail
    go_ret
    exact ⟨rfl, HB1.out⟩
  · have t1 : (n : Int) ≤ 1000 := by omega
    go_wp2_with fail
    refine (PC.out.get a n c bs _ (HC.out _ HB1.out) H256.out (by omega) hc HM.out).mono ?_
    rintro e w2 ⟨hb2, ⟨k, y, l, N, a1, c1, hok, he, hel, -, -, rfl⟩ | ⟨hno, a1, c1, rfl⟩⟩
    · have HB2 := Lib.hid ((HB1.out.trans (hb2.mono HB1.out.size)).alloc (Nat.le_trans HB1.out.size hb2.size) (Obj.cells #[.int .i64 k, .int .i64 y, .int .i64 l, .slice a1 N.length c1] 24))
      have HA2 := Lib.hid (CmdAt.new w2 k y l (.slice a1 N.length c1))
      have HL2 := Lib.hid (hel.upB ((Below.refl w2.heap.size w2).alloc (Nat.le_refl _) (Obj.cells #[.int .i64 k, .int .i64 y, .int .i64 l, .slice a1 N.length c1] 24)))
      have HO := Lib.hid (And.intro hok he)
      have h16 := hok.2.2.2.1
      clear hb2 hok he hel
      go_wp2_with fail
      refine (refGet_any a n c bs _ (HC.out _ HB2.out) H256.out (by omega) hc HM.out).mono ?_
      rintro e w3 ⟨hb3, k', y', l', a2, n2, c2, ⟨N', hok', he', hel', rfl⟩ | ⟨hno, _⟩⟩
      rotate_left
      · exact absurd HO.out.2 (hno k y l N HO.out.1)
      have hp := putB_prefix (k := k) (y := y) (l := l) (N := N) (k' := k') (y' := y') (l' := l') (N' := N') (r := []) (s := []) (by rw [List.append_nil, List.append_nil, ← HO.out.2, ← he'])
      obtain ⟨rfl, rfl, rfl, rfl, -⟩ := hp
      have HB3 := Lib.hid ((HB2.out.trans (hb3.mono HB2.out.size)).alloc (Nat.le_trans HB2.out.size hb3.size) (Obj.cells #[.int .i64 k, .int .i64 y, .int .i64 l, .slice a2 n2 c2] 24))
      have HA3 := Lib.hid ((HA2.out.call hb3).call ((Below.refl w3.heap.size w3).alloc (Nat.le_refl _) (Obj.cells #[.int .i64 k, .int .i64 y, .int .i64 l, .slice a2 n2 c2] 24)))
      have HX3 := Lib.hid (CmdAt.new w3 k y l (.slice a2 n2 c2))
      have HE3 : Hid (∀ W, Below (w3.heap.size + 1) (w3.alloc (Obj.cells #[.int .i64 k, .int .i64 y, .int .i64 l, .slice a2 n2 c2] 24)) W → Elems W a1 N.length N ∧ Elems W a2 n2 N) := fun W hW => by
        have h3 : Below w3.heap.size w3 W := ((Below.refl _ _).alloc (Nat.le_refl _) _).trans (hW.mono (Nat.le_succ _))
        exact ⟨(HL2.out.upB hb3).upB h3, hel'.upB h3⟩
      have hz3 : w2.heap.size < w3.heap.size := (HA2.out.call hb3).lt
      obtain ⟨p0, p1, p2, p3, -, -⟩ := HA3.out
      obtain ⟨q0, q1, q2, q3, -, -⟩ := HX3.out
      clear hb3 hok' he' hel'
      go_wp2_with fail
      refine (refSame_any k y l a1 a2 N.length n2 c1 c2 N _ (HE3.out _ (Below.refl _ _)).1 (HE3.out _ (Below.refl _ _)).2 (by omega)).mono ?_
      rintro e w4 ⟨rfl, hb4⟩
      have HB4 := Lib.hid (HB3.out.trans (hb4.mono HB3.out.size))
      clear hb4
      go_wp2_with fail
      go_ret
      exact ⟨by simp, HB4.out⟩
    · have HB2 := Lib.hid ((HB1.out.trans (hb2.mono HB1.out.size)).alloc (Nat.le_trans HB1.out.size hb2.size) (Obj.cells #[.int .i64 0, .int .i64 0, .int .i64 0, .slice a1 0 c1] 24))
      have HA2 := Lib.hid (CmdAt.new w2 0 0 0 (.slice a1 0 c1))
      have HNO := Lib.hid hno
      clear hb2 hno
      go_wp2_with fail
      refine (refGet_any a n c bs _ (HC.out _ HB2.out) H256.out (by omega) hc HM.out).mono ?_
      rintro e w3 ⟨hb3, k', y', l', a2, n2, c2, ⟨N', hok', he', -, -⟩ | ⟨-, rfl⟩⟩
      · exact absurd he' (HNO.out _ _ _ _ hok')
      have HB3 := Lib.hid ((HB2.out.trans (hb3.mono HB2.out.size)).alloc (Nat.le_trans HB2.out.size hb3.size) (Obj.cells #[.int .i64 k', .int .i64 y', .int .i64 l', .slice a2 n2 c2] 24))
      have HA3 := Lib.hid ((HA2.out.call hb3).call ((Below.refl w3.heap.size w3).alloc (Nat.le_refl _) (Obj.cells #[.int .i64 k', .int .i64 y', .int .i64 l', .slice a2 n2 c2] 24)))
      have hz3 : w2.heap.size < w3.heap.size := (HA2.out.call hb3).lt
      obtain ⟨p0, p1, p2, p3, -, -⟩ := HA3.out
      clear hb3
      go_wp2_with fail
      refine (refSame_any 0 0 0 a1 none 0 0 c1 0 [] _ ⟨rfl, (fun n hn => by cases hn), Or.inl rfl⟩ ⟨rfl, (fun n hn => by cases hn), Or.inl rfl⟩ (by omega)).mono ?_
      rintro e w4 ⟨rfl, hb4⟩
      have HB4 := Lib.hid (HB3.out.trans (hb4.mono HB3.out.size))
      clear hb4
      go_wp2_with fail
      go_ret
      exact ⟨by simp, HB4.out⟩
end Go.Proofs.Ytbiggclekgpgeaa
