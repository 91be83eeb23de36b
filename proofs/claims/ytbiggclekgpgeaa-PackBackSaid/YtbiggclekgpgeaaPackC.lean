/- What is asked of package pack's calls; the examples at the head of layer 6's statements. -/
import Derived.Test.YtbiggclekgpgeaaPackSame
import Derived.Test.YtbiggclekgpgeaaErr
namespace Go.Proofs.Ytbiggclekgpgeaa
open Go Go.RowKit
set_option linter.unusedVariables false

/-- an error of api -/
abbrev errK (k : Int) : Value := .iface 31 (.int .i64 k)

/-- what Put tells -/
def PutTo (w : World) (k y l : Int) (n : Nat) (N : List Int) (e : Ending) (w' : World) : Prop :=
  Below w.heap.size w w' ∧ ((n ≤ 16 ∧ ∃ v, e = .returned (.tuple #[v, .nilIface]) ∧ w'.ownsRow w.heap.size 5 1 v (putB k y l N).length ((putB k y l N).map b8)) ∨
    (16 < n ∧ ∃ p c, e = .returned (.tuple #[.slice p 0 c, errK 1])))
/-- what Get tells -/
def CmdTo (w : World) (bs : List Nat) (e : Ending) (w' : World) : Prop :=
  Below w.heap.size w w' ∧ ((∃ (k y l : Int) (N : List Int) (a : Option Addr) (c : Nat), okC k y l N ∧ bs = putB k y l N ∧ Elems w' a N.length N ∧ (∀ x, a = some x → N = [] ∨ w.heap.size ≤ x.block) ∧ N.length ≤ c ∧ e = .returned (.tuple #[cmdV k y l (.slice a N.length c), .nilIface])) ∨
    (NoCmd bs ∧ ∃ a c, e = .returned (.tuple #[cmdV 0 0 0 (.slice a 0 c), errK 2])))

/-- the contracts of package pack -/
structure PackC : Prop where
  put : ∀ (k y l : Int) (a : Option Addr) (n c : Nat) (N : List Int) (w : World), i64 k → i64 y → i64 l → Elems w a n N → n ≤ 1000 → n ≤ c →
    Calls Try.prog 8 #[cmdV k y l (.slice a n c)] w (PutTo w k y l n N)
  get : ∀ (a : Option Addr) (n c : Nat) (bs : List Nat) (w : World), Cells w a n (bs.map b8) → (∀ b ∈ bs, b < 256) → n ≤ 1000 → n ≤ c → c ≤ maxLen →
    Calls Try.prog 10 #[.slice a n c] w (CmdTo w bs)

theorem numB_up : numB 2 = [4] ∧ numB (-1) = [1] ∧ numB 64 = [128, 1] ∧ numB 1 = [2] ∧ numB 3 = [6] := by
  unfold numB zig
  refine ⟨?_, ?_, ?_, ?_, ?_⟩
  · simp; rw [dig7_lt (by omega)]
  · simp; rw [dig7_lt (by omega)]
  · simp; rw [dig7_ge (by omega), dig7_lt (by omega)]
  · simp; rw [dig7_lt (by omega)]
  · simp; rw [dig7_lt (by omega)]
theorem putB_up : putB 2 (-1) 64 [3] = [4, 1, 128, 1, 2, 6] := by
  obtain ⟨h1, h2, h3, h4, h5⟩ := numB_up
  rw [putB_parts]
  simp only [List.length_singleton, allB, h1, h2, h3, h5]
  rw [show ((1 : Nat) : Int) = 1 from rfl, h4]
  rfl
theorem noCmd_nil : NoCmd [] := fun k y l N hok e => by
  have := putB_len k y l N
  rw [← e] at this
  simp at this
theorem str_up : (strB [4, 1, 128, 1, 2, 6]).toList = ([4, 1, 128, 1, 2, 6] : List UInt8) := by rw [ByteArray.toList_eq]; decide +kernel

set_option maxHeartbeats 4000000 in
theorem up06_any (PC : Hid PackC) (w : World) : Calls Try.prog 7 #[] w fun e w' => e = .returned (.bool true) ∧ Below w.heap.size w w' := by
  have rb4 := build_cmd4
  have rd := fun (w : World) (k : Int) => run_eql_code w k k
  have hst := str_up
  go_enter Try.func7, Try.ntmps7
  go_wp2_with fail
  refine (PC.out.put 2 (-1) 64 (some ⟨w.heap.size, 0, none⟩) 1 1 [3] _ (by unfold i64; omega) (by unfold i64; omega) (by unfold i64; omega) ⟨rfl, fun n hn => by simp at hn; omega, Or.inr ⟨_, 0, rfl, fun j hj => by
    obtain rfl : j = 0 := by omega
    simp⟩⟩ (by omega) (by omega)).mono ?_
  rintro e w1 ⟨hb1, ⟨_, v, rfl, ho⟩ | ⟨h, _⟩⟩
  rotate_left
  · omega
  rw [putB_up] at ho
  obtain ⟨pa, pc, rfl, hcl, -, -, -⟩ := own_bytes ho
  have HB1 := Lib.hid (((Below.refl w.heap.size w).alloc (Nat.le_refl _) (Obj.cells #[.int .i64 3] 2)).trans (hb1.mono (by simp)))
  have HC := Lib.hid (show Cells w1 pa 6 ([4, 1, 128, 1, 2, 6].map b8) from hcl)
  clear hb1 ho hcl
  go_wp2_with fail
  refine (PC.out.get none 0 0 [] _ ⟨rfl, Or.inl rfl⟩ (fun b hb => by cases hb) (by omega) (by omega) (by simp [maxLen])).mono ?_
  rintro e w2 ⟨hb2, ⟨k, y, l, N, a, c, hok, he, _⟩ | ⟨_, a, c, rfl⟩⟩
  · exact absurd he (noCmd_nil k y l N hok)
  have HB2 := Lib.hid ((HB1.out.trans (hb2.mono HB1.out.size)).alloc (Nat.le_trans HB1.out.size hb2.size) (Obj.cells #[.int .i64 0, .int .i64 0, .int .i64 0, .slice a 0 c] 24))
  have rs := run_str_row (w := w2.alloc (Obj.cells #[.int .i64 0, .int .i64 0, .int .i64 0, .slice a 0 c] 24)) (c := pc) (HC.out.upB (hb2.alloc hb2.size _))
  clear hb2
  go_wp2_with fail
  go_ret
  exact ⟨by simp, HB2.out⟩
end Go.Proofs.Ytbiggclekgpgeaa
