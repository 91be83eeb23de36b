/-
  NARROWER THAN 'FOR EVERY INPUT', by the rows' own cells (each row's printed sentence says how): BookPlays: laid · BookZero: laid · BookBack: laid · BookStays: laid · BookTurns: laid · BookTwins: laid.
  DERIVED. THE GIVEN ROWS OF THIS SEAT. 6 by the template 'for every input the law returns true; each argument reads behind the call as it read before'; 0 by the template 'total and deterministic' (their statements: YtcdkgfjjgebcnaaDoorTotals.lean).
  GIVEN WITH THE SEED: the statements are not yours to turn. If you find one false, say at which input.
  Laid BY PROGRAM, IN A SANDBOX (cutbox-rows.mjs): the forced cells as the released guide's own fill.sh prints them over the translation 4df8b635c9989363… (all of the seat's roots in one cut). By AI agents, Wed Nov 11 2026. No macro, syntax, notation, axiom, sorry.
-/
import Derived.Test.YtcdkgfjjgebcnaaDoorChecked
import GoSem.Claim
import GoSem.ClaimJoined
import GoSem.ClaimMapViews
import Derived.JoinedTies
import Derived.KernelRfl
namespace Go.Proofs.YtcdkgfjjgebcnaaDoor
/- THE CELL 'sum', in the pinned program and in every row, IS THE sha256 OF THE DUMP (.gsa) THAT YtcdkgfjjgebcnaaDoorProg.lean LOADS. Nothing in Lean hashes anything: it is a label: what it is worth is what the hold of that sum in a sandbox is worth. -/
noncomputable def Tryd.pinned : Pinned := { name := "ytcdkgfjjgebcnaadoor", sum := "4df8b635c9989363debc5020a58d020ec9504e66c30bb9aacc3fc6bf28eee2a9", checked := Tryd.checked }
namespace Rows
def none {H : Type} : Left H := { results := [], args := [] }

/- WHAT THE LISTED PACKAGE-LEVEL VARIABLES READ AS WHEN THE CALL BEGINS. Each datum BY PROGRAM (the guide's laid-datum.mjs) off the statement by which the dump's own 'gosem.cut.vars' lays the variable. In a bare row this is a premise. The card (YtcdkgfjjgebcnaaDoorCards.lean) ties it to the program's text. -/
def laid_trivet_chart_kinds {H : Type} : DataW H := .agg [.agg [.lit (.string []), .lit (.int .i64 0), .lit (.bool false)], .agg [.lit (.string [99, 97, 115, 104]), .lit (.int .i64 0), .lit (.bool true)], .agg [.lit (.string [116, 114, 117, 115, 116]), .lit (.int .i64 0), .lit (.bool true)], .agg [.lit (.string [111, 119, 110]), .lit (.int .i64 0), .lit (.bool true)], .agg [.lit (.string [105, 110, 118, 101, 115, 116, 111, 114]), .lit (.int .i64 65536), .lit (.bool false)], .agg [.lit (.string [101, 115, 99, 114, 111, 119]), .lit (.int .i64 65536), .lit (.bool false)], .agg [.lit (.string [115, 117, 115, 112, 101, 110, 115, 101]), .lit (.int .i64 65536), .lit (.bool false)], .agg [.lit (.string [97, 100, 118, 97, 110, 99, 101]), .lit (.int .i64 65536), .lit (.bool true)], .agg [.lit (.string [102, 101, 101]), .lit (.int .i64 65536), .lit (.bool false)], .agg [.lit (.string [103, 117, 97, 114, 97, 110, 116, 121]), .lit (.int .i64 65536), .lit (.bool false)], .agg [.lit (.string [108, 97, 116, 101]), .lit (.int .i64 65536), .lit (.bool false)], .agg [.lit (.string [112, 114, 105, 110, 99, 105, 112, 97, 108]), .lit (.int .i64 65536), .lit (.bool false)], .agg [.lit (.string [108, 111, 97, 110]), .lit (.int .i64 65536), .lit (.bool true)]]

/-- 'trivetlaw10.BookPlays': WHATEVER THE INPUT: true; the input reads as it did. -/
def bookPlaysSpec : ChangeSpec := { name := "bookPlays", fn := fun _ => fun
  | [d1, d2, d3] => { results := [.lit (.bool true)], args := [d1, d2, d3] }
  | _ => none }
def bookPlaysRow : OpenClaim := { program := "ytcdkgfjjgebcnaadoor", sum := "4df8b635c9989363debc5020a58d020ec9504e66c30bb9aacc3fc6bf28eee2a9", func := "trivet/trivetlaw10.BookPlays", spec := "bookPlays", inPlace := ["math/bits.Add64"], unfollowed := true, recurses := true, named := ["trivet/chart.kinds"], plainKeys := false, apart := false, laid := [("trivet/chart.kinds", laid_trivet_chart_kinds)] }
def BookPlaysSaid : Prop := bookPlaysRow.holds Tryd.pinned (OpenSpec.ofChange bookPlaysSpec)

/-- ITS FALSE NEIGHBOUR: 'it returns false'. Refute it at one input. -/
def bookPlaysWrong : ChangeSpec := { name := "bookPlays", fn := fun _ => fun
  | [d1, d2, d3] => { results := [.lit (.bool false)], args := [d1, d2, d3] }
  | _ => none }
def BookPlaysWrongFalsely : Prop := bookPlaysRow.holds Tryd.pinned (OpenSpec.ofChange bookPlaysWrong)

/-- 'trivetlaw10.BookZero': WHATEVER THE INPUT: true; the input reads as it did. -/
def bookZeroSpec : ChangeSpec := { name := "bookZero", fn := fun _ => fun
  | [d] => { results := [.lit (.bool true)], args := [d] }
  | _ => none }
def bookZeroRow : OpenClaim := { program := "ytcdkgfjjgebcnaadoor", sum := "4df8b635c9989363debc5020a58d020ec9504e66c30bb9aacc3fc6bf28eee2a9", func := "trivet/trivetlaw10.BookZero", spec := "bookZero", inPlace := ["math/bits.Add64"], unfollowed := true, recurses := true, named := ["trivet/chart.kinds"], plainKeys := false, apart := false, laid := [("trivet/chart.kinds", laid_trivet_chart_kinds)] }
def BookZeroSaid : Prop := bookZeroRow.holds Tryd.pinned (OpenSpec.ofChange bookZeroSpec)

/-- ITS FALSE NEIGHBOUR: 'it returns false'. Refute it at one input. -/
def bookZeroWrong : ChangeSpec := { name := "bookZero", fn := fun _ => fun
  | [d] => { results := [.lit (.bool false)], args := [d] }
  | _ => none }
def BookZeroWrongFalsely : Prop := bookZeroRow.holds Tryd.pinned (OpenSpec.ofChange bookZeroWrong)

/-- 'trivetlaw10.BookBack': WHATEVER THE INPUT: true; the input reads as it did. -/
def bookBackSpec : ChangeSpec := { name := "bookBack", fn := fun _ => fun
  | [d1, d2] => { results := [.lit (.bool true)], args := [d1, d2] }
  | _ => none }
def bookBackRow : OpenClaim := { program := "ytcdkgfjjgebcnaadoor", sum := "4df8b635c9989363debc5020a58d020ec9504e66c30bb9aacc3fc6bf28eee2a9", func := "trivet/trivetlaw10.BookBack", spec := "bookBack", inPlace := ["math/bits.Add64"], unfollowed := true, recurses := true, named := ["trivet/chart.kinds"], plainKeys := false, apart := false, laid := [("trivet/chart.kinds", laid_trivet_chart_kinds)] }
def BookBackSaid : Prop := bookBackRow.holds Tryd.pinned (OpenSpec.ofChange bookBackSpec)

/-- ITS FALSE NEIGHBOUR: 'it returns false'. Refute it at one input. -/
def bookBackWrong : ChangeSpec := { name := "bookBack", fn := fun _ => fun
  | [d1, d2] => { results := [.lit (.bool false)], args := [d1, d2] }
  | _ => none }
def BookBackWrongFalsely : Prop := bookBackRow.holds Tryd.pinned (OpenSpec.ofChange bookBackWrong)

/-- 'trivetlaw10.BookStays': WHATEVER THE INPUT: true; the input reads as it did. -/
def bookStaysSpec : ChangeSpec := { name := "bookStays", fn := fun _ => fun
  | [d1, d2] => { results := [.lit (.bool true)], args := [d1, d2] }
  | _ => none }
def bookStaysRow : OpenClaim := { program := "ytcdkgfjjgebcnaadoor", sum := "4df8b635c9989363debc5020a58d020ec9504e66c30bb9aacc3fc6bf28eee2a9", func := "trivet/trivetlaw10.BookStays", spec := "bookStays", inPlace := ["math/bits.Add64", "maps.clone"], unfollowed := true, recurses := true, named := ["trivet/chart.kinds"], plainKeys := false, apart := false, laid := [("trivet/chart.kinds", laid_trivet_chart_kinds)] }
def BookStaysSaid : Prop := bookStaysRow.holds Tryd.pinned (OpenSpec.ofChange bookStaysSpec)

/-- ITS FALSE NEIGHBOUR: 'it returns false'. Refute it at one input. -/
def bookStaysWrong : ChangeSpec := { name := "bookStays", fn := fun _ => fun
  | [d1, d2] => { results := [.lit (.bool false)], args := [d1, d2] }
  | _ => none }
def BookStaysWrongFalsely : Prop := bookStaysRow.holds Tryd.pinned (OpenSpec.ofChange bookStaysWrong)

/-- 'trivetlaw10.BookTurns': WHATEVER THE INPUT: true; the input reads as it did. -/
def bookTurnsSpec : ChangeSpec := { name := "bookTurns", fn := fun _ => fun
  | [d1, d2] => { results := [.lit (.bool true)], args := [d1, d2] }
  | _ => none }
def bookTurnsRow : OpenClaim := { program := "ytcdkgfjjgebcnaadoor", sum := "4df8b635c9989363debc5020a58d020ec9504e66c30bb9aacc3fc6bf28eee2a9", func := "trivet/trivetlaw10.BookTurns", spec := "bookTurns", inPlace := ["math/bits.Add64"], unfollowed := true, recurses := true, named := ["trivet/chart.kinds"], plainKeys := false, apart := false, laid := [("trivet/chart.kinds", laid_trivet_chart_kinds)] }
def BookTurnsSaid : Prop := bookTurnsRow.holds Tryd.pinned (OpenSpec.ofChange bookTurnsSpec)

/-- ITS FALSE NEIGHBOUR: 'it returns false'. Refute it at one input. -/
def bookTurnsWrong : ChangeSpec := { name := "bookTurns", fn := fun _ => fun
  | [d1, d2] => { results := [.lit (.bool false)], args := [d1, d2] }
  | _ => none }
def BookTurnsWrongFalsely : Prop := bookTurnsRow.holds Tryd.pinned (OpenSpec.ofChange bookTurnsWrong)

/-- 'trivetlaw10.BookTwins': WHATEVER THE INPUT: true; the input reads as it did. -/
def bookTwinsSpec : ChangeSpec := { name := "bookTwins", fn := fun _ => fun
  | [d1, d2] => { results := [.lit (.bool true)], args := [d1, d2] }
  | _ => none }
def bookTwinsRow : OpenClaim := { program := "ytcdkgfjjgebcnaadoor", sum := "4df8b635c9989363debc5020a58d020ec9504e66c30bb9aacc3fc6bf28eee2a9", func := "trivet/trivetlaw10.BookTwins", spec := "bookTwins", inPlace := ["math/bits.Add64", "maps.clone"], unfollowed := true, recurses := true, named := ["trivet/chart.kinds"], plainKeys := false, apart := false, laid := [("trivet/chart.kinds", laid_trivet_chart_kinds)] }
def BookTwinsSaid : Prop := bookTwinsRow.holds Tryd.pinned (OpenSpec.ofChange bookTwinsSpec)

/-- ITS FALSE NEIGHBOUR: 'it returns false'. Refute it at one input. -/
def bookTwinsWrong : ChangeSpec := { name := "bookTwins", fn := fun _ => fun
  | [d1, d2] => { results := [.lit (.bool false)], args := [d1, d2] }
  | _ => none }
def BookTwinsWrongFalsely : Prop := bookTwinsRow.holds Tryd.pinned (OpenSpec.ofChange bookTwinsWrong)

/- THE SECOND FORM. 'bulk': how many values and letters a reading holds, each counted each time it is reached (what is shared counts as often as it is met; a slice's spare places count too). A statement '..UptoSaid' is the law's where the arguments, and the package variables that the reading takes, are together of bulk at most 1048576: NARROWER than '..Said'. Prove '..Said' where nothing that the law and all that it calls make is longer than what came in: it says more and counts as full. Else prove '..UptoSaid'. A law counts once. -/
mutual
def uptoBulk {H : Type} : DataW H → Nat
  | .lit (.string bytes) => bytes.length + 1
  | .lit _ => 1
  | .nil => 1
  | .ptr d => uptoBulk d + 1
  | .slice elems spare => uptoBulkAll elems + uptoBulkAll spare + 1
  | .agg parts => uptoBulkAll parts + 1
  | .iface _ d => uptoBulk d + 1
  | .map entries => uptoBulkEntries entries + 1
  | .held _ => 1
def uptoBulkAll {H : Type} : List (DataW H) → Nat
  | [] => 0
  | d :: r => uptoBulk d + uptoBulkAll r
def uptoBulkEntries {H : Type} : List (Lit × DataW H) → Nat
  | [] => 0
  | x :: r => uptoBulkEntry x + uptoBulkEntries r
def uptoBulkEntry {H : Type} : Lit × DataW H → Nat
  | (.string bytes, d) => bytes.length + uptoBulk d + 1
  | (_, d) => uptoBulk d + 1
 end
def uptoSmall : (H : Type) → List (DataW H) → Bool := fun _ ds => decide (uptoBulkAll ds ≤ 1048576)
def OpenSpec.upto (s : _root_.Go.ChangeSpec) : _root_.Go.OpenSpec := { _root_.Go.OpenSpec.ofChange s with cond := some uptoSmall }

/-- 'trivetlaw10.BookPlays', WHERE WHAT IT READS IS OF BULK AT MOST 1048576: true; the input reads as it did. -/
def bookPlaysUptoRow : OpenClaim := { program := "ytcdkgfjjgebcnaadoor", sum := "4df8b635c9989363debc5020a58d020ec9504e66c30bb9aacc3fc6bf28eee2a9", func := "trivet/trivetlaw10.BookPlays", spec := "bookPlays", inPlace := ["math/bits.Add64"], unfollowed := true, recurses := true, named := ["trivet/chart.kinds"], plainKeys := false, apart := false, laid := [("trivet/chart.kinds", laid_trivet_chart_kinds)], narrowed := true }
def BookPlaysUptoSaid : Prop := bookPlaysUptoRow.holds Tryd.pinned (OpenSpec.upto bookPlaysSpec)

/-- 'trivetlaw10.BookZero', WHERE WHAT IT READS IS OF BULK AT MOST 1048576: true; the input reads as it did. -/
def bookZeroUptoRow : OpenClaim := { program := "ytcdkgfjjgebcnaadoor", sum := "4df8b635c9989363debc5020a58d020ec9504e66c30bb9aacc3fc6bf28eee2a9", func := "trivet/trivetlaw10.BookZero", spec := "bookZero", inPlace := ["math/bits.Add64"], unfollowed := true, recurses := true, named := ["trivet/chart.kinds"], plainKeys := false, apart := false, laid := [("trivet/chart.kinds", laid_trivet_chart_kinds)], narrowed := true }
def BookZeroUptoSaid : Prop := bookZeroUptoRow.holds Tryd.pinned (OpenSpec.upto bookZeroSpec)

/-- 'trivetlaw10.BookBack', WHERE WHAT IT READS IS OF BULK AT MOST 1048576: true; the input reads as it did. -/
def bookBackUptoRow : OpenClaim := { program := "ytcdkgfjjgebcnaadoor", sum := "4df8b635c9989363debc5020a58d020ec9504e66c30bb9aacc3fc6bf28eee2a9", func := "trivet/trivetlaw10.BookBack", spec := "bookBack", inPlace := ["math/bits.Add64"], unfollowed := true, recurses := true, named := ["trivet/chart.kinds"], plainKeys := false, apart := false, laid := [("trivet/chart.kinds", laid_trivet_chart_kinds)], narrowed := true }
def BookBackUptoSaid : Prop := bookBackUptoRow.holds Tryd.pinned (OpenSpec.upto bookBackSpec)

/-- 'trivetlaw10.BookStays', WHERE WHAT IT READS IS OF BULK AT MOST 1048576: true; the input reads as it did. -/
def bookStaysUptoRow : OpenClaim := { program := "ytcdkgfjjgebcnaadoor", sum := "4df8b635c9989363debc5020a58d020ec9504e66c30bb9aacc3fc6bf28eee2a9", func := "trivet/trivetlaw10.BookStays", spec := "bookStays", inPlace := ["math/bits.Add64", "maps.clone"], unfollowed := true, recurses := true, named := ["trivet/chart.kinds"], plainKeys := false, apart := false, laid := [("trivet/chart.kinds", laid_trivet_chart_kinds)], narrowed := true }
def BookStaysUptoSaid : Prop := bookStaysUptoRow.holds Tryd.pinned (OpenSpec.upto bookStaysSpec)

/-- 'trivetlaw10.BookTurns', WHERE WHAT IT READS IS OF BULK AT MOST 1048576: true; the input reads as it did. -/
def bookTurnsUptoRow : OpenClaim := { program := "ytcdkgfjjgebcnaadoor", sum := "4df8b635c9989363debc5020a58d020ec9504e66c30bb9aacc3fc6bf28eee2a9", func := "trivet/trivetlaw10.BookTurns", spec := "bookTurns", inPlace := ["math/bits.Add64"], unfollowed := true, recurses := true, named := ["trivet/chart.kinds"], plainKeys := false, apart := false, laid := [("trivet/chart.kinds", laid_trivet_chart_kinds)], narrowed := true }
def BookTurnsUptoSaid : Prop := bookTurnsUptoRow.holds Tryd.pinned (OpenSpec.upto bookTurnsSpec)

/-- 'trivetlaw10.BookTwins', WHERE WHAT IT READS IS OF BULK AT MOST 1048576: true; the input reads as it did. -/
def bookTwinsUptoRow : OpenClaim := { program := "ytcdkgfjjgebcnaadoor", sum := "4df8b635c9989363debc5020a58d020ec9504e66c30bb9aacc3fc6bf28eee2a9", func := "trivet/trivetlaw10.BookTwins", spec := "bookTwins", inPlace := ["math/bits.Add64", "maps.clone"], unfollowed := true, recurses := true, named := ["trivet/chart.kinds"], plainKeys := false, apart := false, laid := [("trivet/chart.kinds", laid_trivet_chart_kinds)], narrowed := true }
def BookTwinsUptoSaid : Prop := bookTwinsUptoRow.holds Tryd.pinned (OpenSpec.upto bookTwinsSpec)

end Rows
end Go.Proofs.YtcdkgfjjgebcnaaDoor
