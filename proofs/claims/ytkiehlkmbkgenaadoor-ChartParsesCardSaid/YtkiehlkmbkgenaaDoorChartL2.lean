/- The walk of ChartParses: the account of any name, or that it is none's. -/
import Derived.Test.YtkiehlkmbkgenaaDoorChartAcc
import Derived.Test.YtkiehlkmbkgenaaDoorChartL1
import Derived.Test.YtkiehlkmbkgenaaDoorChartRef4
namespace Go.Proofs.YtkiehlkmbkgenaaDoor
open Go Go.RowKit
set_option linter.unusedVariables false

set_option maxRecDepth 100000 in
set_option maxHeartbeats 8000000 in
theorem chartParses_walk (CC : Hid ChartC) (s : ByteArray) (w : World) (T : Kin w) :
    Calls Tryd.prog 4 #[.string s] w fun e w' => e = .returned (.bool true) ∧ Below w.heap.size w w' := by
  obtain ⟨L, rfl⟩ : ∃ L, s = strL L := ⟨s.toList, (strL_of s).symm⟩
  have rd := fun (w : World) (k : Int) => run_eql_code w k k
  have re := run_eql_acc
  have rg := run_guard_acc
  have b0 := build_acc0
  have hsz := strL_size L
  obtain ⟨n, hn⟩ : ∃ n, L.length = n := ⟨_, rfl⟩
  have HN := Lib.hid hn
  rw [hn] at hsz
  have HT := Lib.hid T
  clear hn T
  go_enter Tryd.func4, Tryd.ntmps4
  go_wp2_with fail
  refine (up09_any CC _ HT.out).mono ?_
  rintro e w1 ⟨rfl, hb1⟩
  have HB1 := Lib.hid hb1
  clear hb1
  by_cases hl : 1000 < n
  · have t1 : (1000 : Int) < (n : Int) := by omega
    go_wp2_with fail
    go_ret
    exact ⟨by simp, HB1.out⟩
  · have t1 : ¬ (1000 : Int) < (n : Int) := by omega
    go_wp2_with fail
    refine (CC.out.parse (strL L) _ (HT.out.of HB1.out) (by rw [strL_size, HN.out]; omega)).mono ?_
    rintro e w2 ⟨hb2, hP⟩
    have HB2 := Lib.hid (HB1.out.trans (hb2.mono HB1.out.size))
    clear hb2
    rcases hP with ⟨k, o, hm, he, rfl⟩ | ⟨hno, rfl⟩
    · have HLe := Lib.hid (strL_inj he)
      clear he
      have HA := Lib.hid (At2.new w2 k o)
      have HB3 := Lib.hid (HB2.out.alloc (o := Obj.cells #[.int .i64 k, .int .i64 o] 23) HB2.out.size)
      go_wp2_with fail
      refine (refParse_any L (by rw [HN.out]; omega) _).mono ?_
      rintro e w3 ⟨hb3, ⟨k', o', hm', he', rfl⟩ | ⟨hno, _, _, rfl⟩⟩
      · obtain ⟨rfl, rfl⟩ := nameL_inj hm' hm (he'.symm.trans HLe.out)
        clear he'
        have HA2 := Lib.hid (HA.out.up hb3)
        have HAA := Lib.hid (HA2.out.alloc (Obj.cells #[.int .i64 k', .int .i64 o'] 23))
        have HB4 := Lib.hid (HB3.out.trans (hb3.mono HB3.out.size))
        have HB5 := Lib.hid (HB4.out.alloc (o := Obj.cells #[.int .i64 k', .int .i64 o'] 23) HB4.out.size)
        obtain ⟨a0, a1, -⟩ := HAA.out
        clear hb3
        go_wp2_with fail
        go_ret
        exact ⟨by simp, HB5.out⟩
      · exact absurd HLe.out (hno k o hm)
    · have HA := Lib.hid (At2.new w2 0 0)
      have HB3 := Lib.hid (HB2.out.alloc (o := Obj.cells #[.int .i64 0, .int .i64 0] 23) HB2.out.size)
      go_wp2_with fail
      refine (refParse_any L (by rw [HN.out]; omega) _).mono ?_
      rintro e w3 ⟨hb3, ⟨k', o', hm', he', rfl⟩ | ⟨_, k', o', rfl⟩⟩
      · exact absurd (by rw [he']) (hno k' o' hm')
      · have HA2 := Lib.hid (HA.out.up hb3)
        have HAA := Lib.hid (HA2.out.alloc (Obj.cells #[.int .i64 k', .int .i64 o'] 23))
        have HB4 := Lib.hid (HB3.out.trans (hb3.mono HB3.out.size))
        have HB5 := Lib.hid (HB4.out.alloc (o := Obj.cells #[.int .i64 k', .int .i64 o'] 23) HB4.out.size)
        obtain ⟨a0, a1, -⟩ := HAA.out
        clear hb3
        go_wp2_with fail
        go_ret
        exact ⟨by simp, HB5.out⟩
end Go.Proofs.YtkiehlkmbkgenaaDoor
