/- The contracts of the document's answers of layer 4: the date of a number, the day so many months behind. -/
import Derived.Test.YtpddnmkoiplmkaaDoorDateRef
namespace Go.Proofs.YtpddnmkoiplmkaaDoor
open Go Go.RowKit
set_option linter.unusedVariables false

theorem date_cell {w w2 : World} {a b c : Value} {t : TypeId} (hb : Below (w.heap.size + 1) (w.alloc (Obj.cells #[a, b, c] t)) w2) :
    (w2.cell? ⟨w.heap.size, 0, none⟩ = some a ∧ w2.cell? ⟨w.heap.size, 1, none⟩ = some b ∧ w2.cell? ⟨w.heap.size, 2, none⟩ = some c) ∧
    w2.frozen? ⟨w.heap.size, 0, none⟩ = false ∧ w2.frozen? ⟨w.heap.size, 1, none⟩ = false ∧ w2.frozen? ⟨w.heap.size, 2, none⟩ = false := by
  have hc : ∀ o, w2.cell? ⟨w.heap.size, o, none⟩ = (w.alloc (Obj.cells #[a, b, c] t)).cell? ⟨w.heap.size, o, none⟩ := fun o => hb.cell (p := ⟨w.heap.size, o, none⟩) (Nat.lt_succ_self _)
  have hf : ∀ o, w2.frozen? ⟨w.heap.size, o, none⟩ = (w.alloc (Obj.cells #[a, b, c] t)).frozen? ⟨w.heap.size, o, none⟩ := fun o => hb.frozen (p := ⟨w.heap.size, o, none⟩) (Nat.lt_succ_self _)
  rw [hc, hc, hc, hf, hf, hf]
  refine ⟨⟨?_, ?_, ?_⟩, ?_, ?_, ?_⟩ <;> simp

def zdate : Value := .agg #[.int .i64 0, .int .i64 0, .int .i64 0]

theorem first_num : numD 1900 1 1 = -25567 := by decide +kernel
theorem last_num : numD 2199 12 31 = 84005 := by decide +kernel
theorem first_may : mayD 1900 1 1 := by decide +kernel
theorem last_may : mayD 2199 12 31 := by decide +kernel

def OfTo (n : Int) (w : World) (e : Ending) (w' : World) : Prop :=
  (∃ y m d, e = .returned (.tuple #[.agg #[.int .i64 y, .int .i64 m, .int .i64 d], .bool true]) ∧ mayD y m d ∧ numD y m d = n) ∧ Below w.heap.size w w'

end Go.Proofs.YtpddnmkoiplmkaaDoor
