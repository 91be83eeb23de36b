/- Slices of bytes as strings. -/
import Derived.Test.YtkiehlkmbkgenaaDoorBytes
import Derived.Laws.BytesArg
import Derived.Laws.Strings
namespace Go.Proofs.YtkiehlkmbkgenaaDoor
open Go Go.RowKit
set_option linter.unusedVariables false

/-- bytes as a string -/
def strB (bs : List Nat) : ByteArray := strOfNums (bs.map fun (k : Nat) => (k : Int))

theorem strB_inj {l r : List Nat} (hl : ∀ b ∈ l, b < 256) (hr : ∀ b ∈ r, b < 256) (h : strB l = strB r) : l = r := by
  have e := congrArg (fun s : ByteArray => s.data.toList) h
  simp only [strB, strOfNums_data, List.map_map] at e
  clear h
  induction l generalizing r with
  | nil =>
    cases r with
    | nil => rfl
    | cons b r => simp at e
  | cons a l ih =>
    cases r with
    | nil => simp at e
    | cons b r =>
      simp only [List.map_cons, List.cons.injEq, Function.comp] at e
      obtain ⟨e1, e2⟩ := e
      have h1 := hl a (by simp)
      have h2 := hr b (by simp)
      have e3 : a = b := by
        have := congrArg UInt8.toNat e1
        simp at this
        omega
      rw [e3, ih (fun x hx => hl x (by simp [hx])) (fun x hx => hr x (by simp [hx])) e2]

theorem strB_toList_inj {l r : List Nat} (hl : ∀ b ∈ l, b < 256) (hr : ∀ b ∈ r, b < 256) (h : (strB l).toList = (strB r).toList) : l = r := by
  rw [ByteArray.toList_eq, ByteArray.toList_eq] at h
  refine strB_inj hl hr ?_
  have e : (strB l).data = (strB r).data := Array.ext' h
  cases hs : strB l
  cases ht : strB r
  rw [hs, ht] at e
  exact congrArg ByteArray.mk e
/-- how the walk spells that two strings are the same -/
theorem strB_same (l : List Nat) : ((strB l).toList == (strB l).toList) = true := by simp
theorem strB_other {l r : List Nat} (hl : ∀ b ∈ l, b < 256) (hr : ∀ b ∈ r, b < 256) (h : l ≠ r) : ((strB l).toList == (strB r).toList) = false := by
  simp only [beq_eq_false_iff_ne]
  exact fun e => h (strB_toList_inj hl hr e)

theorem run_str_row {w : World} {a : Option Addr} {n c : Nat} {bs : List Nat} (h : Cells w a n (bs.map b8)) :
    (convert 53 9 (.slice a n c)).run Tryd.prog w = .ok (.string (strB bs)) w := by
  have hl : bs.length = n := by have := h.1; rwa [List.length_map] at this
  cases a with
  | none =>
    have hn : n = 0 := by
      rcases h.2 with h | ⟨b, off, h, _⟩
      · exact h
      · cases h
    subst hn
    obtain rfl : bs = [] := List.eq_nil_of_length_eq_zero hl
    rw [run_convert_bytes_nil w 53 5 Tryd.underlying53 Tryd.underlying5 0 c _ Tryd.underlying9]
    rfl
  | some x =>
    rcases h.2 with h0 | ⟨b, off, e, hc⟩
    · subst h0
      obtain rfl : bs = [] := List.eq_nil_of_length_eq_zero hl
      rw [run_convert_bytes_string w _ _ 5 (some x) 0 c Tryd.underlying53 Tryd.underlying5 Tryd.underlying9, run_bytesToString w x 0 c [] (by
        have := run_loadCells_list (P := Tryd.prog) w x [] (fun j v hj => by simp at hj)
        simpa using this)]
      rfl
    · cases e
      refine run_convert_bytes_arg w 53 5 Tryd.underlying53 Tryd.underlying5 b off n c (bs.map fun (k : Nat) => (k : Int)) (by simpa using hl) (fun i hi => ?_) _ Tryd.underlying9
      rw [hc i hi]
      simp [List.getD, b8, show i < bs.length by omega]
end Go.Proofs.YtkiehlkmbkgenaaDoor
