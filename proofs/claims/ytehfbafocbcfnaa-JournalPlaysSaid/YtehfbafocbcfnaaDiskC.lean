/- What is asked of package disk's calls; the example at the head of layer 7's statements. -/
import Derived.Test.YtehfbafocbcfnaaDiskRef4
import Derived.Test.YtehfbafocbcfnaaErr
import Derived.Test.YtehfbafocbcfnaaStr
namespace Go.Proofs.Ytehfbafocbcfnaa
open Go Go.RowKit
set_option linter.unusedVariables false

/-- an error of api -/
abbrev errD (k : Int) : Value := .iface 65 (.int .i64 k)

def i64d (n : Int) : Prop := -9223372036854775808 ≤ n ∧ n ≤ 9223372036854775807

/-- D n F d s w: at d lies a disk of n blocks, its memory in the blocks of F, that is as s says -/
structure DiskC (D : Nat → (Nat → Prop) → Addr → Dsk → World → Prop) : Prop where
  lt : ∀ {n F d s w}, D n F d s w → ∀ k, F k → k < w.heap.size
  ok : ∀ {n F d s w}, D n F d s w → s.di.length = n ∧ s.st.length = 64 * n ∧ s.nw.length = 64 * n ∧ n ≤ 1024
  keep : ∀ {n F d s w w'} {X : Nat → Prop}, D n F d s w → Only X w w' → (∀ k, X k → ¬ F k) → D n F d s w'
  new : ∀ (b : Int) (w : World), i64d b → Calls Try.prog 14 #[.int .i64 b] w fun e w' => Below w.heap.size w w' ∧
    ((1 ≤ b ∧ b ≤ 1024 ∧ ∃ d F, e = .returned (.tuple #[.pointer (some d), .nilIface]) ∧ D b.toNat F d (Dsk.zero b.toNat) w' ∧ ∀ k, F k → w.heap.size ≤ k) ∨
      ((b < 1 ∨ 1024 < b) ∧ e = .returned (.tuple #[.pointer none, errD 1])))
  size : ∀ {n F d s w}, D n F d s w → Calls Try.prog 34 #[.pointer (some d)] w fun e w' => Below w.heap.size w w' ∧ e = .returned (.int .i64 (64 * (n : Int)))
  dirty : ∀ {n F d s w}, D n F d s w → Calls Try.prog 36 #[.pointer (some d)] w fun e w' => Below w.heap.size w w' ∧ e = .returned (.int .i64 (s.many : Int))
  read : ∀ {n F d s w} (p m : Int), D n F d s w → i64d p → i64d m → Calls Try.prog 22 #[.pointer (some d), .int .i64 p, .int .i64 m] w fun e w' => Below w.heap.size w w' ∧
    ((thereD n p m = true ∧ ∃ v, e = .returned (.tuple #[v, .nilIface]) ∧ w'.ownsRow w.heap.size 5 1 v m.toNat (((s.nw.drop p.toNat).take m.toNat).map b8)) ∨
      (thereD n p m = false ∧ ∃ a c, e = .returned (.tuple #[.slice a 0 c, errD 1])))
  write : ∀ {n F d s w} (p : Int) (a : Option Addr) (m c : Nat) (bs : List Nat), D n F d s w → i64d p → Cells w a m (bs.map b8) → (∀ b ∈ bs, b < 256) → (∀ x, a = some x → m = 0 ∨ ¬ F x.block) → m ≤ c → c ≤ maxLen → m ≤ 2000 →
    Calls Try.prog 15 #[.pointer (some d), .int .i64 p, .slice a m c] w fun e w' => Only F w w' ∧ ∃ F', (∀ k, F' k → F k ∨ w.heap.size ≤ k) ∧
      ((thereD n p m = true ∧ e = .returned .nilIface ∧ D n F' d (s.write p.toNat bs) w') ∨ (thereD n p m = false ∧ e = .returned (errD 1) ∧ D n F' d s w'))
  sync : ∀ {n F d s w}, D n F d s w → Calls Try.prog 16 #[.pointer (some d)] w fun e w' => Only F w w' ∧ ∃ F', (∀ k, F' k → F k ∨ w.heap.size ≤ k) ∧ e = .returned (.tuple #[]) ∧ D n F' d s.sync w'
  crash : ∀ {n F d s w} (a : Option Addr) (m c : Nat) (picks : List Int), D n F d s w → Elems w a m picks → (∀ x, a = some x → m = 0 ∨ ¬ F x.block) → m ≤ c → m ≤ 2000 →
    Calls Try.prog 27 #[.pointer (some d), .slice a m c] w fun e w' => Only F w w' ∧ ∃ F', (∀ k, F' k → F k ∨ w.heap.size ≤ k) ∧ e = .returned (.tuple #[]) ∧ D n F' d (s.crash picks) w'

/-- which of n things a raw number speaks of -/
def pickD (c : Int) (n : Nat) : Nat := ((if c < 0 then -(c + 1) else c) % (n : Int)).toNat

theorem up_crash7 : (((Dsk.zero 1).write 0 [7, 8]).crash [1]).nw.take 2 = [7, 0] := by decide +kernel
theorem str_up7 : (strB [7, 0]).toList = ([7, 0] : List UInt8) := by rw [ByteArray.toList_eq]; decide +kernel
end Go.Proofs.Ytehfbafocbcfnaa
