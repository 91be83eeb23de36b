/-
  DERIVED. GIVEN WITH THE SEED: THE CARDS: each row of YtkiehlkmbkgenaaDoorRows.lean that lists a variable, with what it lists TIED to the program's text (the seventh form; the later family's looks); each row that meets fmt, with fmt's text TOLD by the authors' own Lean function (tested against real Go, not proved from fmt's source: count such statements apart). THE CARD IS WHAT COUNTS. Prove the row's statement (the work); the ties are given (YtkiehlkmbkgenaaDoorTie.lean); close each card by the builder's one call (the guide's Derived/Test/ToyasCard.lean, 'card_holds'). Laid BY PROGRAM, IN A SANDBOX (cutbox-door.mjs). By AI agents, Wed Nov 11 2026. No macro, syntax, notation, axiom, sorry.
-/
import Derived.Test.YtkiehlkmbkgenaaDoorRows
import GoSem.ClaimSeven
namespace Go.Proofs.YtkiehlkmbkgenaaDoor
namespace Rows

/-- THE TIED CARD OF 'trivetlaw09.ChartAccounts'. -/
def chartAccountsCard : Claim7 := { stood := { row := chartAccountsRow, standIns := [], harness := (true, "9eb194f872b8a1eed76a79bc20d3b1a1beb561f1c9862c7e43e9aaac6695a539"), looks := true }, kinds := [], alts := [], laidByText := true, laidKinds := [.data, .data, .data, .sentinel, .sentinel, .data], laidTests := true, laidLooks := .later }
def ChartAccountsCardSaid : Prop := Claim7.holds Tryd.pinned (.plain (OpenSpec.ofChange chartAccountsSpec)) chartAccountsCard

/-- THE TIED CARD OF 'trivetlaw09.ChartParses'. -/
def chartParsesCard : Claim7 := { stood := { row := chartParsesRow, standIns := [], harness := (true, "9eb194f872b8a1eed76a79bc20d3b1a1beb561f1c9862c7e43e9aaac6695a539"), looks := true }, kinds := [], alts := [], laidByText := true, laidKinds := [.data, .data, .data, .sentinel, .sentinel, .data], laidTests := true, laidLooks := .later }
def ChartParsesCardSaid : Prop := Claim7.holds Tryd.pinned (.plain (OpenSpec.ofChange chartParsesSpec)) chartParsesCard

/-- THE TIED CARD OF 'trivetlaw09.ChartBack'. -/
def chartBackCard : Claim7 := { stood := { row := chartBackRow, standIns := [], harness := (true, "9eb194f872b8a1eed76a79bc20d3b1a1beb561f1c9862c7e43e9aaac6695a539"), looks := true }, kinds := [], alts := [], laidByText := true, laidKinds := [.data, .data, .data, .sentinel, .sentinel, .data], laidTests := true, laidLooks := .later }
def ChartBackCardSaid : Prop := Claim7.holds Tryd.pinned (.plain (OpenSpec.ofChange chartBackSpec)) chartBackCard

/-- THE TIED CARD OF 'trivetlaw09.ChartOrder'. -/
def chartOrderCard : Claim7 := { stood := { row := chartOrderRow, standIns := [], harness := (true, "9eb194f872b8a1eed76a79bc20d3b1a1beb561f1c9862c7e43e9aaac6695a539"), looks := true }, kinds := [], alts := [], laidByText := true, laidKinds := [.data, .data, .data, .sentinel, .sentinel, .data], laidTests := true, laidLooks := .later }
def ChartOrderCardSaid : Prop := Claim7.holds Tryd.pinned (.plain (OpenSpec.ofChange chartOrderSpec)) chartOrderCard

/-- THE SECOND FORM's CARD OF 'trivetlaw09.ChartAccounts'. -/
def chartAccountsUptoCard : Claim7 := { stood := { row := chartAccountsUptoRow, standIns := [], harness := (true, "9eb194f872b8a1eed76a79bc20d3b1a1beb561f1c9862c7e43e9aaac6695a539"), looks := true }, kinds := [], alts := [], laidByText := true, laidKinds := [.data, .data, .data, .sentinel, .sentinel, .data], laidTests := true, laidLooks := .later }
def ChartAccountsUptoCardSaid : Prop := Claim7.holds Tryd.pinned (.plain (OpenSpec.upto chartAccountsSpec)) chartAccountsUptoCard

/-- THE SECOND FORM's CARD OF 'trivetlaw09.ChartParses'. -/
def chartParsesUptoCard : Claim7 := { stood := { row := chartParsesUptoRow, standIns := [], harness := (true, "9eb194f872b8a1eed76a79bc20d3b1a1beb561f1c9862c7e43e9aaac6695a539"), looks := true }, kinds := [], alts := [], laidByText := true, laidKinds := [.data, .data, .data, .sentinel, .sentinel, .data], laidTests := true, laidLooks := .later }
def ChartParsesUptoCardSaid : Prop := Claim7.holds Tryd.pinned (.plain (OpenSpec.upto chartParsesSpec)) chartParsesUptoCard

/-- THE SECOND FORM's CARD OF 'trivetlaw09.ChartBack'. -/
def chartBackUptoCard : Claim7 := { stood := { row := chartBackUptoRow, standIns := [], harness := (true, "9eb194f872b8a1eed76a79bc20d3b1a1beb561f1c9862c7e43e9aaac6695a539"), looks := true }, kinds := [], alts := [], laidByText := true, laidKinds := [.data, .data, .data, .sentinel, .sentinel, .data], laidTests := true, laidLooks := .later }
def ChartBackUptoCardSaid : Prop := Claim7.holds Tryd.pinned (.plain (OpenSpec.upto chartBackSpec)) chartBackUptoCard

/-- THE SECOND FORM's CARD OF 'trivetlaw09.ChartOrder'. -/
def chartOrderUptoCard : Claim7 := { stood := { row := chartOrderUptoRow, standIns := [], harness := (true, "9eb194f872b8a1eed76a79bc20d3b1a1beb561f1c9862c7e43e9aaac6695a539"), looks := true }, kinds := [], alts := [], laidByText := true, laidKinds := [.data, .data, .data, .sentinel, .sentinel, .data], laidTests := true, laidLooks := .later }
def ChartOrderUptoCardSaid : Prop := Claim7.holds Tryd.pinned (.plain (OpenSpec.upto chartOrderSpec)) chartOrderUptoCard
end Rows
end Go.Proofs.YtkiehlkmbkgenaaDoor
