/-
  DERIVED. GIVEN WITH THE SEED: THE CARDS: each row of YtniefibdbkdmnaaDoorRows.lean that lists a variable, with what it lists TIED to the program's text (the seventh form; the later family's looks); each row that meets fmt, with fmt's text TOLD by the authors' own Lean function (tested against real Go, not proved from fmt's source: count such statements apart). THE CARD IS WHAT COUNTS. Prove the row's statement (the work); the ties are given (YtniefibdbkdmnaaDoorTie.lean); close each card by the builder's one call (the guide's Derived/Test/ToyasCard.lean, 'card_holds'). Laid BY PROGRAM, IN A SANDBOX (cutbox-door.mjs). By AI agents, Wed Nov 11 2026. No macro, syntax, notation, axiom, sorry.
-/
import Derived.Test.YtniefibdbkdmnaaDoorRows
import GoSem.ClaimSeven
namespace Go.Proofs.YtniefibdbkdmnaaDoor
namespace Rows

/-- THE TIED CARD OF 'trivetlaw04.DateMays'. -/
def dateMaysCard : Claim7 := { stood := { row := dateMaysRow, standIns := [], harness := (true, "6454d1615c9fd7665ead901031d159aaad474cb38da3dfc8844baa58e1b5ff1d"), looks := true }, kinds := [], alts := [], laidByText := true, laidKinds := [.data], laidTests := true, laidLooks := .later }
def DateMaysCardSaid : Prop := Claim7.holds Tryd.pinned (.plain (OpenSpec.ofChange dateMaysSpec)) dateMaysCard

/-- THE TIED CARD OF 'trivetlaw04.DateNumbers'. -/
def dateNumbersCard : Claim7 := { stood := { row := dateNumbersRow, standIns := [], harness := (true, "6454d1615c9fd7665ead901031d159aaad474cb38da3dfc8844baa58e1b5ff1d"), looks := true }, kinds := [], alts := [], laidByText := true, laidKinds := [.data], laidTests := true, laidLooks := .later }
def DateNumbersCardSaid : Prop := Claim7.holds Tryd.pinned (.plain (OpenSpec.ofChange dateNumbersSpec)) dateNumbersCard

/-- THE TIED CARD OF 'trivetlaw04.DateMoves'. -/
def dateMovesCard : Claim7 := { stood := { row := dateMovesRow, standIns := [], harness := (true, "6454d1615c9fd7665ead901031d159aaad474cb38da3dfc8844baa58e1b5ff1d"), looks := true }, kinds := [], alts := [], laidByText := true, laidKinds := [.data], laidTests := true, laidLooks := .later }
def DateMovesCardSaid : Prop := Claim7.holds Tryd.pinned (.plain (OpenSpec.ofChange dateMovesSpec)) dateMovesCard

/-- THE TIED CARD OF 'trivetlaw04.DateBack'. -/
def dateBackCard : Claim7 := { stood := { row := dateBackRow, standIns := [], harness := (true, "6454d1615c9fd7665ead901031d159aaad474cb38da3dfc8844baa58e1b5ff1d"), looks := true }, kinds := [], alts := [], laidByText := true, laidKinds := [.data], laidTests := true, laidLooks := .later }
def DateBackCardSaid : Prop := Claim7.holds Tryd.pinned (.plain (OpenSpec.ofChange dateBackSpec)) dateBackCard

/-- THE TIED CARD OF 'trivetlaw04.DateSteps'. -/
def dateStepsCard : Claim7 := { stood := { row := dateStepsRow, standIns := [], harness := (true, "6454d1615c9fd7665ead901031d159aaad474cb38da3dfc8844baa58e1b5ff1d"), looks := true }, kinds := [], alts := [], laidByText := true, laidKinds := [.data], laidTests := true, laidLooks := .later }
def DateStepsCardSaid : Prop := Claim7.holds Tryd.pinned (.plain (OpenSpec.ofChange dateStepsSpec)) dateStepsCard

/-- THE SECOND FORM's CARD OF 'trivetlaw04.DateMays'. -/
def dateMaysUptoCard : Claim7 := { stood := { row := dateMaysUptoRow, standIns := [], harness := (true, "6454d1615c9fd7665ead901031d159aaad474cb38da3dfc8844baa58e1b5ff1d"), looks := true }, kinds := [], alts := [], laidByText := true, laidKinds := [.data], laidTests := true, laidLooks := .later }
def DateMaysUptoCardSaid : Prop := Claim7.holds Tryd.pinned (.plain (OpenSpec.upto dateMaysSpec)) dateMaysUptoCard

/-- THE SECOND FORM's CARD OF 'trivetlaw04.DateNumbers'. -/
def dateNumbersUptoCard : Claim7 := { stood := { row := dateNumbersUptoRow, standIns := [], harness := (true, "6454d1615c9fd7665ead901031d159aaad474cb38da3dfc8844baa58e1b5ff1d"), looks := true }, kinds := [], alts := [], laidByText := true, laidKinds := [.data], laidTests := true, laidLooks := .later }
def DateNumbersUptoCardSaid : Prop := Claim7.holds Tryd.pinned (.plain (OpenSpec.upto dateNumbersSpec)) dateNumbersUptoCard

/-- THE SECOND FORM's CARD OF 'trivetlaw04.DateMoves'. -/
def dateMovesUptoCard : Claim7 := { stood := { row := dateMovesUptoRow, standIns := [], harness := (true, "6454d1615c9fd7665ead901031d159aaad474cb38da3dfc8844baa58e1b5ff1d"), looks := true }, kinds := [], alts := [], laidByText := true, laidKinds := [.data], laidTests := true, laidLooks := .later }
def DateMovesUptoCardSaid : Prop := Claim7.holds Tryd.pinned (.plain (OpenSpec.upto dateMovesSpec)) dateMovesUptoCard

/-- THE SECOND FORM's CARD OF 'trivetlaw04.DateBack'. -/
def dateBackUptoCard : Claim7 := { stood := { row := dateBackUptoRow, standIns := [], harness := (true, "6454d1615c9fd7665ead901031d159aaad474cb38da3dfc8844baa58e1b5ff1d"), looks := true }, kinds := [], alts := [], laidByText := true, laidKinds := [.data], laidTests := true, laidLooks := .later }
def DateBackUptoCardSaid : Prop := Claim7.holds Tryd.pinned (.plain (OpenSpec.upto dateBackSpec)) dateBackUptoCard

/-- THE SECOND FORM's CARD OF 'trivetlaw04.DateSteps'. -/
def dateStepsUptoCard : Claim7 := { stood := { row := dateStepsUptoRow, standIns := [], harness := (true, "6454d1615c9fd7665ead901031d159aaad474cb38da3dfc8844baa58e1b5ff1d"), looks := true }, kinds := [], alts := [], laidByText := true, laidKinds := [.data], laidTests := true, laidLooks := .later }
def DateStepsUptoCardSaid : Prop := Claim7.holds Tryd.pinned (.plain (OpenSpec.upto dateStepsSpec)) dateStepsUptoCard
end Rows
end Go.Proofs.YtniefibdbkdmnaaDoor
