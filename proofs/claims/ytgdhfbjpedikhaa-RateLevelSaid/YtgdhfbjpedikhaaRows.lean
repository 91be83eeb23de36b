/-
  No cell of these rows narrows 'for every input' (looked for: loops, veiled, ifaces, maps, wideKeys, modest, calm, conditions, laid).
  DERIVED. THE GIVEN ROWS OF THIS SEAT. 7 by the template 'for every input the law returns true; each argument reads behind the call as it read before'; 0 by the template 'total and deterministic' (their statements: YtgdhfbjpedikhaaTotals.lean).
  GIVEN WITH THE SEED: the statements are not yours to turn. If you find one false, say at which input.
  Laid BY PROGRAM, IN A SANDBOX (cutbox-rows.mjs): the forced cells as the released guide's own fill.sh prints them over the translation 0c5f31489daf0f17… (all of the seat's roots in one cut). By AI agents, Wed Nov 11 2026. No macro, syntax, notation, axiom, sorry.
-/
import Derived.Test.YtgdhfbjpedikhaaChecked
import GoSem.Claim
import GoSem.ClaimJoined
import GoSem.ClaimMapViews
import Derived.JoinedTies
import Derived.KernelRfl
namespace Go.Proofs.Ytgdhfbjpedikhaa
/- THE CELL 'sum', in the pinned program and in every row, IS THE sha256 OF THE DUMP (.gsa) THAT YtgdhfbjpedikhaaProg.lean LOADS. Nothing in Lean hashes anything: it is a label: what it is worth is what the hold of that sum in a sandbox is worth. -/
noncomputable def Try.pinned : Pinned := { name := "ytgdhfbjpedikhaa", sum := "0c5f31489daf0f1790e9e103b9d44b319a44584bdd738bd4d73200e44b0c30eb", checked := Try.checked }
namespace Rows
def none {H : Type} : Left H := { results := [], args := [] }

/-- 'trivetlaw01.CentsQuotients': WHATEVER THE INPUT: true; the input reads as it did. -/
def centsQuotientsSpec : ChangeSpec := { name := "centsQuotients", fn := fun _ => fun
  | [d1, d2, d3, d4] => { results := [.lit (.bool true)], args := [d1, d2, d3, d4] }
  | _ => none }
def centsQuotientsRow : OpenClaim := { program := "ytgdhfbjpedikhaa", sum := "0c5f31489daf0f1790e9e103b9d44b319a44584bdd738bd4d73200e44b0c30eb", func := "trivet/trivetlaw01.CentsQuotients", spec := "centsQuotients", named := ["math/bits.divideError", "math/bits.overflowError"], apart := false }
def CentsQuotientsSaid : Prop := centsQuotientsRow.holds Try.pinned (OpenSpec.ofChange centsQuotientsSpec)

/-- ITS FALSE NEIGHBOUR: 'it returns false'. Refute it at one input. -/
def centsQuotientsWrong : ChangeSpec := { name := "centsQuotients", fn := fun _ => fun
  | [d1, d2, d3, d4] => { results := [.lit (.bool false)], args := [d1, d2, d3, d4] }
  | _ => none }
def CentsQuotientsWrongFalsely : Prop := centsQuotientsRow.holds Try.pinned (OpenSpec.ofChange centsQuotientsWrong)

/-- 'trivetlaw02.RateMonths': WHATEVER THE INPUT: true; the input reads as it did. -/
def rateMonthsSpec : ChangeSpec := { name := "rateMonths", fn := fun _ => fun
  | [d1, d2, d3] => { results := [.lit (.bool true)], args := [d1, d2, d3] }
  | _ => none }
def rateMonthsRow : OpenClaim := { program := "ytgdhfbjpedikhaa", sum := "0c5f31489daf0f1790e9e103b9d44b319a44584bdd738bd4d73200e44b0c30eb", func := "trivet/trivetlaw02.RateMonths", spec := "rateMonths", named := ["math/bits.divideError", "math/bits.overflowError"], apart := false }
def RateMonthsSaid : Prop := rateMonthsRow.holds Try.pinned (OpenSpec.ofChange rateMonthsSpec)

/-- ITS FALSE NEIGHBOUR: 'it returns false'. Refute it at one input. -/
def rateMonthsWrong : ChangeSpec := { name := "rateMonths", fn := fun _ => fun
  | [d1, d2, d3] => { results := [.lit (.bool false)], args := [d1, d2, d3] }
  | _ => none }
def RateMonthsWrongFalsely : Prop := rateMonthsRow.holds Try.pinned (OpenSpec.ofChange rateMonthsWrong)

/-- 'trivetlaw02.RateLeft': WHATEVER THE INPUT: true; the input reads as it did. -/
def rateLeftSpec : ChangeSpec := { name := "rateLeft", fn := fun _ => fun
  | [d1, d2, d3, d4] => { results := [.lit (.bool true)], args := [d1, d2, d3, d4] }
  | _ => none }
def rateLeftRow : OpenClaim := { program := "ytgdhfbjpedikhaa", sum := "0c5f31489daf0f1790e9e103b9d44b319a44584bdd738bd4d73200e44b0c30eb", func := "trivet/trivetlaw02.RateLeft", spec := "rateLeft", named := ["math/bits.divideError", "math/bits.overflowError"], apart := false }
def RateLeftSaid : Prop := rateLeftRow.holds Try.pinned (OpenSpec.ofChange rateLeftSpec)

/-- ITS FALSE NEIGHBOUR: 'it returns false'. Refute it at one input. -/
def rateLeftWrong : ChangeSpec := { name := "rateLeft", fn := fun _ => fun
  | [d1, d2, d3, d4] => { results := [.lit (.bool false)], args := [d1, d2, d3, d4] }
  | _ => none }
def RateLeftWrongFalsely : Prop := rateLeftRow.holds Try.pinned (OpenSpec.ofChange rateLeftWrong)

/-- 'trivetlaw02.RateLevel': WHATEVER THE INPUT: true; the input reads as it did. -/
def rateLevelSpec : ChangeSpec := { name := "rateLevel", fn := fun _ => fun
  | [d1, d2, d3] => { results := [.lit (.bool true)], args := [d1, d2, d3] }
  | _ => none }
def rateLevelRow : OpenClaim := { program := "ytgdhfbjpedikhaa", sum := "0c5f31489daf0f1790e9e103b9d44b319a44584bdd738bd4d73200e44b0c30eb", func := "trivet/trivetlaw02.RateLevel", spec := "rateLevel", named := ["math/bits.divideError", "math/bits.overflowError"], apart := false }
def RateLevelSaid : Prop := rateLevelRow.holds Try.pinned (OpenSpec.ofChange rateLevelSpec)

/-- ITS FALSE NEIGHBOUR: 'it returns false'. Refute it at one input. -/
def rateLevelWrong : ChangeSpec := { name := "rateLevel", fn := fun _ => fun
  | [d1, d2, d3] => { results := [.lit (.bool false)], args := [d1, d2, d3] }
  | _ => none }
def RateLevelWrongFalsely : Prop := rateLevelRow.holds Try.pinned (OpenSpec.ofChange rateLevelWrong)

/-- 'trivetlaw02.RateMore': WHATEVER THE INPUT: true; the input reads as it did. -/
def rateMoreSpec : ChangeSpec := { name := "rateMore", fn := fun _ => fun
  | [d1, d2, d3, d4, d5, d6] => { results := [.lit (.bool true)], args := [d1, d2, d3, d4, d5, d6] }
  | _ => none }
def rateMoreRow : OpenClaim := { program := "ytgdhfbjpedikhaa", sum := "0c5f31489daf0f1790e9e103b9d44b319a44584bdd738bd4d73200e44b0c30eb", func := "trivet/trivetlaw02.RateMore", spec := "rateMore", named := ["math/bits.divideError", "math/bits.overflowError"], apart := false }
def RateMoreSaid : Prop := rateMoreRow.holds Try.pinned (OpenSpec.ofChange rateMoreSpec)

/-- ITS FALSE NEIGHBOUR: 'it returns false'. Refute it at one input. -/
def rateMoreWrong : ChangeSpec := { name := "rateMore", fn := fun _ => fun
  | [d1, d2, d3, d4, d5, d6] => { results := [.lit (.bool false)], args := [d1, d2, d3, d4, d5, d6] }
  | _ => none }
def RateMoreWrongFalsely : Prop := rateMoreRow.holds Try.pinned (OpenSpec.ofChange rateMoreWrong)

/-- 'trivetlaw02.RateSteps': WHATEVER THE INPUT: true; the input reads as it did. -/
def rateStepsSpec : ChangeSpec := { name := "rateSteps", fn := fun _ => fun
  | [d1, d2, d3, d4, d5] => { results := [.lit (.bool true)], args := [d1, d2, d3, d4, d5] }
  | _ => none }
def rateStepsRow : OpenClaim := { program := "ytgdhfbjpedikhaa", sum := "0c5f31489daf0f1790e9e103b9d44b319a44584bdd738bd4d73200e44b0c30eb", func := "trivet/trivetlaw02.RateSteps", spec := "rateSteps", named := ["math/bits.divideError", "math/bits.overflowError"], apart := false }
def RateStepsSaid : Prop := rateStepsRow.holds Try.pinned (OpenSpec.ofChange rateStepsSpec)

/-- ITS FALSE NEIGHBOUR: 'it returns false'. Refute it at one input. -/
def rateStepsWrong : ChangeSpec := { name := "rateSteps", fn := fun _ => fun
  | [d1, d2, d3, d4, d5] => { results := [.lit (.bool false)], args := [d1, d2, d3, d4, d5] }
  | _ => none }
def RateStepsWrongFalsely : Prop := rateStepsRow.holds Try.pinned (OpenSpec.ofChange rateStepsWrong)

/-- 'trivetlaw02.RateHolds': WHATEVER THE INPUT: true; the input reads as it did. -/
def rateHoldsSpec : ChangeSpec := { name := "rateHolds", fn := fun _ => fun
  | [d1, d2, d3] => { results := [.lit (.bool true)], args := [d1, d2, d3] }
  | _ => none }
def rateHoldsRow : OpenClaim := { program := "ytgdhfbjpedikhaa", sum := "0c5f31489daf0f1790e9e103b9d44b319a44584bdd738bd4d73200e44b0c30eb", func := "trivet/trivetlaw02.RateHolds", spec := "rateHolds", named := ["math/bits.divideError", "math/bits.overflowError"], apart := false }
def RateHoldsSaid : Prop := rateHoldsRow.holds Try.pinned (OpenSpec.ofChange rateHoldsSpec)

/-- ITS FALSE NEIGHBOUR: 'it returns false'. Refute it at one input. -/
def rateHoldsWrong : ChangeSpec := { name := "rateHolds", fn := fun _ => fun
  | [d1, d2, d3] => { results := [.lit (.bool false)], args := [d1, d2, d3] }
  | _ => none }
def RateHoldsWrongFalsely : Prop := rateHoldsRow.holds Try.pinned (OpenSpec.ofChange rateHoldsWrong)

/- THE SECOND FORM. 'bulk': how many values and letters a reading holds, each counted each time it is reached (what is shared counts as often as it is met; a slice's spare places count too). A statement '..UptoSaid' is the law's where the arguments, and the package variables that the reading takes, are together of bulk at most 1048576: NARROWER than '..Said'. Prove '..Said' where nothing that the law and all that it calls make is longer than what came in: it says more and counts as full. Else prove '..UptoSaid'. A law counts once. -/
mutual
def uptoBulk {H : Type} : DataW H → Nat
  | .lit (.string bytes) => bytes.length + 1
  | .lit _ => 1
  | .nil => 1
  | .ptr d => uptoBulk d + 1
  | .slice elems spare => uptoBulkAll elems + uptoBulkAll spare + 1
  | .agg parts => uptoBulkAll parts + 1
  | .iface _ d => uptoBulk d + 1
  | .map entries => uptoBulkEntries entries + 1
  | .held _ => 1
def uptoBulkAll {H : Type} : List (DataW H) → Nat
  | [] => 0
  | d :: r => uptoBulk d + uptoBulkAll r
def uptoBulkEntries {H : Type} : List (Lit × DataW H) → Nat
  | [] => 0
  | x :: r => uptoBulkEntry x + uptoBulkEntries r
def uptoBulkEntry {H : Type} : Lit × DataW H → Nat
  | (.string bytes, d) => bytes.length + uptoBulk d + 1
  | (_, d) => uptoBulk d + 1
 end
def uptoSmall : (H : Type) → List (DataW H) → Bool := fun _ ds => decide (uptoBulkAll ds ≤ 1048576)
def OpenSpec.upto (s : _root_.Go.ChangeSpec) : _root_.Go.OpenSpec := { _root_.Go.OpenSpec.ofChange s with cond := some uptoSmall }

/-- 'trivetlaw01.CentsQuotients', WHERE WHAT IT READS IS OF BULK AT MOST 1048576: true; the input reads as it did. -/
def centsQuotientsUptoRow : OpenClaim := { program := "ytgdhfbjpedikhaa", sum := "0c5f31489daf0f1790e9e103b9d44b319a44584bdd738bd4d73200e44b0c30eb", func := "trivet/trivetlaw01.CentsQuotients", spec := "centsQuotients", named := ["math/bits.divideError", "math/bits.overflowError"], apart := false, narrowed := true }
def CentsQuotientsUptoSaid : Prop := centsQuotientsUptoRow.holds Try.pinned (OpenSpec.upto centsQuotientsSpec)

/-- 'trivetlaw02.RateMonths', WHERE WHAT IT READS IS OF BULK AT MOST 1048576: true; the input reads as it did. -/
def rateMonthsUptoRow : OpenClaim := { program := "ytgdhfbjpedikhaa", sum := "0c5f31489daf0f1790e9e103b9d44b319a44584bdd738bd4d73200e44b0c30eb", func := "trivet/trivetlaw02.RateMonths", spec := "rateMonths", named := ["math/bits.divideError", "math/bits.overflowError"], apart := false, narrowed := true }
def RateMonthsUptoSaid : Prop := rateMonthsUptoRow.holds Try.pinned (OpenSpec.upto rateMonthsSpec)

/-- 'trivetlaw02.RateLeft', WHERE WHAT IT READS IS OF BULK AT MOST 1048576: true; the input reads as it did. -/
def rateLeftUptoRow : OpenClaim := { program := "ytgdhfbjpedikhaa", sum := "0c5f31489daf0f1790e9e103b9d44b319a44584bdd738bd4d73200e44b0c30eb", func := "trivet/trivetlaw02.RateLeft", spec := "rateLeft", named := ["math/bits.divideError", "math/bits.overflowError"], apart := false, narrowed := true }
def RateLeftUptoSaid : Prop := rateLeftUptoRow.holds Try.pinned (OpenSpec.upto rateLeftSpec)

/-- 'trivetlaw02.RateLevel', WHERE WHAT IT READS IS OF BULK AT MOST 1048576: true; the input reads as it did. -/
def rateLevelUptoRow : OpenClaim := { program := "ytgdhfbjpedikhaa", sum := "0c5f31489daf0f1790e9e103b9d44b319a44584bdd738bd4d73200e44b0c30eb", func := "trivet/trivetlaw02.RateLevel", spec := "rateLevel", named := ["math/bits.divideError", "math/bits.overflowError"], apart := false, narrowed := true }
def RateLevelUptoSaid : Prop := rateLevelUptoRow.holds Try.pinned (OpenSpec.upto rateLevelSpec)

/-- 'trivetlaw02.RateMore', WHERE WHAT IT READS IS OF BULK AT MOST 1048576: true; the input reads as it did. -/
def rateMoreUptoRow : OpenClaim := { program := "ytgdhfbjpedikhaa", sum := "0c5f31489daf0f1790e9e103b9d44b319a44584bdd738bd4d73200e44b0c30eb", func := "trivet/trivetlaw02.RateMore", spec := "rateMore", named := ["math/bits.divideError", "math/bits.overflowError"], apart := false, narrowed := true }
def RateMoreUptoSaid : Prop := rateMoreUptoRow.holds Try.pinned (OpenSpec.upto rateMoreSpec)

/-- 'trivetlaw02.RateSteps', WHERE WHAT IT READS IS OF BULK AT MOST 1048576: true; the input reads as it did. -/
def rateStepsUptoRow : OpenClaim := { program := "ytgdhfbjpedikhaa", sum := "0c5f31489daf0f1790e9e103b9d44b319a44584bdd738bd4d73200e44b0c30eb", func := "trivet/trivetlaw02.RateSteps", spec := "rateSteps", named := ["math/bits.divideError", "math/bits.overflowError"], apart := false, narrowed := true }
def RateStepsUptoSaid : Prop := rateStepsUptoRow.holds Try.pinned (OpenSpec.upto rateStepsSpec)

/-- 'trivetlaw02.RateHolds', WHERE WHAT IT READS IS OF BULK AT MOST 1048576: true; the input reads as it did. -/
def rateHoldsUptoRow : OpenClaim := { program := "ytgdhfbjpedikhaa", sum := "0c5f31489daf0f1790e9e103b9d44b319a44584bdd738bd4d73200e44b0c30eb", func := "trivet/trivetlaw02.RateHolds", spec := "rateHolds", named := ["math/bits.divideError", "math/bits.overflowError"], apart := false, narrowed := true }
def RateHoldsUptoSaid : Prop := rateHoldsUptoRow.holds Try.pinned (OpenSpec.upto rateHoldsSpec)

end Rows
end Go.Proofs.Ytgdhfbjpedikhaa
