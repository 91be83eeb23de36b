/- The example at the head of layer 7's statements; the walk of DiskNew. -/
import Derived.Test.YtehfbafocbcfnaaDiskC
namespace Go.Proofs.Ytehfbafocbcfnaa
open Go Go.RowKit
set_option linter.unusedVariables false

theorem DiskC.up {D : Nat → (Nat → Prop) → Addr → Dsk → World → Prop} (C : DiskC D) {n : Nat} {F : Nat → Prop} {d : Addr} {s : Dsk} {w w' : World} (h : D n F d s w) (hb : Below w.heap.size w w') : D n F d s w' :=
  C.keep (X := fun _ => False) h (Only.of_below hb) fun _ hf => hf.elim

theorem code_two : (strB [7, 0]).toList = ([7, 0] : List UInt8) := str_up7

end Go.Proofs.Ytehfbafocbcfnaa
