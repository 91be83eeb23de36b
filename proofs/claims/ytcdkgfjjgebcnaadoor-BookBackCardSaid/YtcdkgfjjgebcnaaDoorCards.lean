/-
  DERIVED. GIVEN WITH THE SEED: THE CARDS: each row of YtcdkgfjjgebcnaaDoorRows.lean that lists a variable, with what it lists TIED to the program's text (the seventh form; the later family's looks); each row that meets fmt, with fmt's text TOLD by the authors' own Lean function (tested against real Go, not proved from fmt's source: count such statements apart). THE CARD IS WHAT COUNTS. Prove the row's statement (the work); the ties are given (YtcdkgfjjgebcnaaDoorTie.lean); close each card by the builder's one call (the guide's Derived/Test/ToyasCard.lean, 'card_holds'). Laid BY PROGRAM, IN A SANDBOX (cutbox-door.mjs). By AI agents, Wed Nov 11 2026. No macro, syntax, notation, axiom, sorry.
-/
import Derived.Test.YtcdkgfjjgebcnaaDoorRows
import GoSem.ClaimSeven
namespace Go.Proofs.YtcdkgfjjgebcnaaDoor
namespace Rows

/-- THE TIED CARD OF 'trivetlaw10.BookPlays'. -/
def bookPlaysCard : Claim7 := { stood := { row := bookPlaysRow, standIns := [], harness := (true, "9827c6bdda07d9c5ef37809acb35e715fbab695d54485ea056195dcce05bcbb5"), looks := true }, kinds := [], alts := [], laidByText := true, laidKinds := [.data], laidTests := true, laidLooks := .later }
def BookPlaysCardSaid : Prop := Claim7.holds Tryd.pinned (.plain (OpenSpec.ofChange bookPlaysSpec)) bookPlaysCard

/-- THE TIED CARD OF 'trivetlaw10.BookZero'. -/
def bookZeroCard : Claim7 := { stood := { row := bookZeroRow, standIns := [], harness := (true, "9827c6bdda07d9c5ef37809acb35e715fbab695d54485ea056195dcce05bcbb5"), looks := true }, kinds := [], alts := [], laidByText := true, laidKinds := [.data], laidTests := true, laidLooks := .later }
def BookZeroCardSaid : Prop := Claim7.holds Tryd.pinned (.plain (OpenSpec.ofChange bookZeroSpec)) bookZeroCard

/-- THE TIED CARD OF 'trivetlaw10.BookBack'. -/
def bookBackCard : Claim7 := { stood := { row := bookBackRow, standIns := [], harness := (true, "9827c6bdda07d9c5ef37809acb35e715fbab695d54485ea056195dcce05bcbb5"), looks := true }, kinds := [], alts := [], laidByText := true, laidKinds := [.data], laidTests := true, laidLooks := .later }
def BookBackCardSaid : Prop := Claim7.holds Tryd.pinned (.plain (OpenSpec.ofChange bookBackSpec)) bookBackCard

/-- THE TIED CARD OF 'trivetlaw10.BookStays'. -/
def bookStaysCard : Claim7 := { stood := { row := bookStaysRow, standIns := [], harness := (true, "9827c6bdda07d9c5ef37809acb35e715fbab695d54485ea056195dcce05bcbb5"), looks := true }, kinds := [], alts := [], laidByText := true, laidKinds := [.data], laidTests := true, laidLooks := .later }
def BookStaysCardSaid : Prop := Claim7.holds Tryd.pinned (.plain (OpenSpec.ofChange bookStaysSpec)) bookStaysCard

/-- THE TIED CARD OF 'trivetlaw10.BookTurns'. -/
def bookTurnsCard : Claim7 := { stood := { row := bookTurnsRow, standIns := [], harness := (true, "9827c6bdda07d9c5ef37809acb35e715fbab695d54485ea056195dcce05bcbb5"), looks := true }, kinds := [], alts := [], laidByText := true, laidKinds := [.data], laidTests := true, laidLooks := .later }
def BookTurnsCardSaid : Prop := Claim7.holds Tryd.pinned (.plain (OpenSpec.ofChange bookTurnsSpec)) bookTurnsCard

/-- THE TIED CARD OF 'trivetlaw10.BookTwins'. -/
def bookTwinsCard : Claim7 := { stood := { row := bookTwinsRow, standIns := [], harness := (true, "9827c6bdda07d9c5ef37809acb35e715fbab695d54485ea056195dcce05bcbb5"), looks := true }, kinds := [], alts := [], laidByText := true, laidKinds := [.data], laidTests := true, laidLooks := .later }
def BookTwinsCardSaid : Prop := Claim7.holds Tryd.pinned (.plain (OpenSpec.ofChange bookTwinsSpec)) bookTwinsCard

/-- THE SECOND FORM's CARD OF 'trivetlaw10.BookPlays'. -/
def bookPlaysUptoCard : Claim7 := { stood := { row := bookPlaysUptoRow, standIns := [], harness := (true, "9827c6bdda07d9c5ef37809acb35e715fbab695d54485ea056195dcce05bcbb5"), looks := true }, kinds := [], alts := [], laidByText := true, laidKinds := [.data], laidTests := true, laidLooks := .later }
def BookPlaysUptoCardSaid : Prop := Claim7.holds Tryd.pinned (.plain (OpenSpec.upto bookPlaysSpec)) bookPlaysUptoCard

/-- THE SECOND FORM's CARD OF 'trivetlaw10.BookZero'. -/
def bookZeroUptoCard : Claim7 := { stood := { row := bookZeroUptoRow, standIns := [], harness := (true, "9827c6bdda07d9c5ef37809acb35e715fbab695d54485ea056195dcce05bcbb5"), looks := true }, kinds := [], alts := [], laidByText := true, laidKinds := [.data], laidTests := true, laidLooks := .later }
def BookZeroUptoCardSaid : Prop := Claim7.holds Tryd.pinned (.plain (OpenSpec.upto bookZeroSpec)) bookZeroUptoCard

/-- THE SECOND FORM's CARD OF 'trivetlaw10.BookBack'. -/
def bookBackUptoCard : Claim7 := { stood := { row := bookBackUptoRow, standIns := [], harness := (true, "9827c6bdda07d9c5ef37809acb35e715fbab695d54485ea056195dcce05bcbb5"), looks := true }, kinds := [], alts := [], laidByText := true, laidKinds := [.data], laidTests := true, laidLooks := .later }
def BookBackUptoCardSaid : Prop := Claim7.holds Tryd.pinned (.plain (OpenSpec.upto bookBackSpec)) bookBackUptoCard

/-- THE SECOND FORM's CARD OF 'trivetlaw10.BookStays'. -/
def bookStaysUptoCard : Claim7 := { stood := { row := bookStaysUptoRow, standIns := [], harness := (true, "9827c6bdda07d9c5ef37809acb35e715fbab695d54485ea056195dcce05bcbb5"), looks := true }, kinds := [], alts := [], laidByText := true, laidKinds := [.data], laidTests := true, laidLooks := .later }
def BookStaysUptoCardSaid : Prop := Claim7.holds Tryd.pinned (.plain (OpenSpec.upto bookStaysSpec)) bookStaysUptoCard

/-- THE SECOND FORM's CARD OF 'trivetlaw10.BookTurns'. -/
def bookTurnsUptoCard : Claim7 := { stood := { row := bookTurnsUptoRow, standIns := [], harness := (true, "9827c6bdda07d9c5ef37809acb35e715fbab695d54485ea056195dcce05bcbb5"), looks := true }, kinds := [], alts := [], laidByText := true, laidKinds := [.data], laidTests := true, laidLooks := .later }
def BookTurnsUptoCardSaid : Prop := Claim7.holds Tryd.pinned (.plain (OpenSpec.upto bookTurnsSpec)) bookTurnsUptoCard

/-- THE SECOND FORM's CARD OF 'trivetlaw10.BookTwins'. -/
def bookTwinsUptoCard : Claim7 := { stood := { row := bookTwinsUptoRow, standIns := [], harness := (true, "9827c6bdda07d9c5ef37809acb35e715fbab695d54485ea056195dcce05bcbb5"), looks := true }, kinds := [], alts := [], laidByText := true, laidKinds := [.data], laidTests := true, laidLooks := .later }
def BookTwinsUptoCardSaid : Prop := Claim7.holds Tryd.pinned (.plain (OpenSpec.upto bookTwinsSpec)) bookTwinsUptoCard
end Rows
end Go.Proofs.YtcdkgfjjgebcnaaDoor
