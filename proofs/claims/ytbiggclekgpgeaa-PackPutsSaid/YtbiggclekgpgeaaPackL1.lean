/- The walk of PackPuts: any command's bytes, or that it has too many numbers. -/
import Derived.Test.YtbiggclekgpgeaaPackC
import Derived.Deep.RegionLaw
namespace Go.Proofs.Ytbiggclekgpgeaa
open Go Go.RowKit
set_option linter.unusedVariables false

set_option maxRecDepth 100000 in
set_option maxHeartbeats 8000000 in
theorem packPuts_walk (PC : Hid PackC) (k y l : Int) (a : Option Addr) (n c : Nat) (N : List Int) (w : World) (hk : i64 k) (hy : i64 y) (hl : i64 l) (hN : Elems w a n N) (hc : n ≤ c) :
    Calls Try.prog 3 #[cmdV k y l (.slice a n c)] w fun e w' => e = .returned (.bool true) ∧ Below w.heap.size w w' := by
  have rd := fun (w : World) (k : Int) => run_eql_code w k k
  have HB : Hid (Below w.heap.size w (w.alloc (Obj.cells #[.int .i64 k, .int .i64 y, .int .i64 l, .slice a n c] 24))) := (Below.refl _ _).alloc (Nat.le_refl _) _
  have HA := Lib.hid (CmdAt.new w k y l (.slice a n c))
  have HE : Hid (∀ W, Below w.heap.size w W → Elems W a n N) := fun W hW => hN.upB hW
  have HI := Lib.hid (And.intro hk (And.intro hy hl))
  clear hk hy hl hN
  go_enter Try.func3, Try.ntmps3
  go_wp2_with fail
  refine (up06_any PC _).mono ?_
  rintro e w1 ⟨rfl, hb1⟩
  have HB1 := Lib.hid (HB.out.trans (hb1.mono HB.out.size))
  have HA1 := Lib.hid (HA.out.call hb1)
  obtain ⟨p0, p1, p2, p3, -, -⟩ := HA1.out
  clear hb1 HB HA
  by_cases h1000 : 1000 < n
  · have t1 : (1000 : Int) < (n : Int) := by omega
    go_wp2_with fail
    go_ret
    exact ⟨rfl, HB1.out⟩
  · have t1 : (n : Int) ≤ 1000 := by omega
    go_wp2_with fail
    refine (PC.out.put k y l a n c N _ HI.out.1 HI.out.2.1 HI.out.2.2 (HE.out _ HB1.out) (by omega) hc).mono ?_
    rintro e w2 ⟨hb2, ⟨h16, v, rfl, ho⟩ | ⟨h16, p, c', rfl⟩⟩
    · have t2 : (n : Int) ≤ 16 := by omega
      have HB2 := Lib.hid (HB1.out.trans (hb2.mono HB1.out.size))
      have HA2 := Lib.hid (HA1.out.call hb2)
      obtain ⟨p0, p1, p2, p3, -, -⟩ := HA2.out
      obtain ⟨pa, pc, rfl, hcl, -, -, -⟩ := own_bytes ho
      obtain ⟨m, hm⟩ : ∃ m, (putB k y l N).length = m := ⟨_, rfl⟩
      rw [hm] at hcl ⊢
      have HC := Lib.hid hcl
      have rs0 := run_str_row (c := pc) (HC.out.upB (Below.drew (Below.refl w2.heap.size w2)))
      have hst : ((strB (putB k y l N)).toList == (strB (putB k y l N)).toList) = true := strB_same _
      clear hb2 ho hcl hm
      go_wp2_with fail
      go_region_law (first
        | (go_simp; go_at_call 9; refine (refPut_any k y l a n c N _ HI.out.1 HI.out.2.1 HI.out.2.2 (HE.out _ HB2.out.drew) (by omega)).mono ?_; rintro e w3 ⟨v3, rfl, o3, b3⟩; obtain ⟨a3, k3, rfl, C3, -, -, -⟩ := own_bytes o3; have rs1 := run_str_row (c := k3) C3; have HB3 := Lib.hid (HB2.out.drew.trans (b3.mono HB2.out.size)); have rs2 := run_str_row (c := pc) (HC.out.upB ((Below.drew (Below.refl w2.heap.size w2)).trans b3)); clear o3 b3 C3))
      all_goals
        go_wp2_with fail
        go_ret
        exact ⟨by first | rfl | simp | simp [Act.put], HB3.out⟩
    · have t2 : (16 : Int) < (n : Int) := by omega
      have HB2 := Lib.hid (HB1.out.trans (hb2.mono HB1.out.size))
      have HA2 := Lib.hid (HA1.out.call hb2)
      obtain ⟨p0, p1, p2, p3, -, -⟩ := HA2.out
      clear hb2
      go_wp2_with fail
      go_ret
      exact ⟨by simp, HB2.out⟩
end Go.Proofs.Ytbiggclekgpgeaa
