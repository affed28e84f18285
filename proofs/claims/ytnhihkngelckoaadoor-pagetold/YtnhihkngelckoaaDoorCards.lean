/-
  DERIVED. GIVEN WITH THE SEED: THE CARDS: each row of YtnhihkngelckoaaDoorRows.lean that lists a variable, with what it lists TIED to the program's text (the seventh form; the later family's looks); each row that meets fmt, with fmt's text TOLD by the authors' own Lean function (tested against real Go, not proved from fmt's source: count such statements apart). THE CARD IS WHAT COUNTS. Prove the row's statement (the work); the ties are given (YtnhihkngelckoaaDoorTie.lean); close each card by the builder's one call (the guide's Derived/Test/ToyasCard.lean, 'card_holds'). Laid BY PROGRAM, IN A SANDBOX (cutbox-door.mjs). By AI agents, Wed Nov 11 2026. No macro, syntax, notation, axiom, sorry.
-/
import Derived.Test.YtnhihkngelckoaaDoorRows
import GoSem.ClaimSeven
namespace Go.Proofs.YtnhihkngelckoaaDoor
namespace Rows

/-- THE TIED CARD OF 'cashbooklaw06.PageSeals'. -/
def pageSealsCard : Claim7 := { stood := { row := pageSealsRow, standIns := [], harness := (true, "d948ed8b7856ccbf1ff93cc6ec3a7b098c2d3eafa08cf55520ed91d984580b53"), looks := false }, kinds := [], alts := [], laidByText := true, laidKinds := [.data], laidTests := true, laidLooks := .later }
def PageSealsCardSaid : Prop := Claim7.holds Tryd.pinned (.plain (OpenSpec.ofChange pageSealsSpec)) pageSealsCard

/-- THE TIED CARD OF 'cashbooklaw06.PageOpens'. -/
def pageOpensCard : Claim7 := { stood := { row := pageOpensRow, standIns := [], harness := (true, "d948ed8b7856ccbf1ff93cc6ec3a7b098c2d3eafa08cf55520ed91d984580b53"), looks := false }, kinds := [], alts := [], laidByText := true, laidKinds := [.data], laidTests := true, laidLooks := .later }
def PageOpensCardSaid : Prop := Claim7.holds Tryd.pinned (.plain (OpenSpec.ofChange pageOpensSpec)) pageOpensCard

/-- THE TIED CARD OF 'cashbooklaw06.PageTold'. -/
def pageToldCard : Claim7 := { stood := { row := pageToldRow, standIns := [], harness := (true, "d948ed8b7856ccbf1ff93cc6ec3a7b098c2d3eafa08cf55520ed91d984580b53"), looks := false }, kinds := [], alts := [], laidByText := true, laidKinds := [.data], laidTests := true, laidLooks := .later }
def PageToldCardSaid : Prop := Claim7.holds Tryd.pinned (.plain (OpenSpec.ofChange pageToldSpec)) pageToldCard

/-- THE TIED CARD OF 'cashbooklaw06.PageMoved'. -/
def pageMovedCard : Claim7 := { stood := { row := pageMovedRow, standIns := [], harness := (true, "d948ed8b7856ccbf1ff93cc6ec3a7b098c2d3eafa08cf55520ed91d984580b53"), looks := false }, kinds := [], alts := [], laidByText := true, laidKinds := [.data], laidTests := true, laidLooks := .later }
def PageMovedCardSaid : Prop := Claim7.holds Tryd.pinned (.plain (OpenSpec.ofChange pageMovedSpec)) pageMovedCard

/-- THE SECOND FORM's CARD OF 'cashbooklaw06.PageSeals'. -/
def pageSealsUptoCard : Claim7 := { stood := { row := pageSealsUptoRow, standIns := [], harness := (true, "d948ed8b7856ccbf1ff93cc6ec3a7b098c2d3eafa08cf55520ed91d984580b53"), looks := false }, kinds := [], alts := [], laidByText := true, laidKinds := [.data], laidTests := true, laidLooks := .later }
def PageSealsUptoCardSaid : Prop := Claim7.holds Tryd.pinned (.plain (OpenSpec.upto pageSealsSpec)) pageSealsUptoCard

/-- THE SECOND FORM's CARD OF 'cashbooklaw06.PageOpens'. -/
def pageOpensUptoCard : Claim7 := { stood := { row := pageOpensUptoRow, standIns := [], harness := (true, "d948ed8b7856ccbf1ff93cc6ec3a7b098c2d3eafa08cf55520ed91d984580b53"), looks := false }, kinds := [], alts := [], laidByText := true, laidKinds := [.data], laidTests := true, laidLooks := .later }
def PageOpensUptoCardSaid : Prop := Claim7.holds Tryd.pinned (.plain (OpenSpec.upto pageOpensSpec)) pageOpensUptoCard

/-- THE SECOND FORM's CARD OF 'cashbooklaw06.PageTold'. -/
def pageToldUptoCard : Claim7 := { stood := { row := pageToldUptoRow, standIns := [], harness := (true, "d948ed8b7856ccbf1ff93cc6ec3a7b098c2d3eafa08cf55520ed91d984580b53"), looks := false }, kinds := [], alts := [], laidByText := true, laidKinds := [.data], laidTests := true, laidLooks := .later }
def PageToldUptoCardSaid : Prop := Claim7.holds Tryd.pinned (.plain (OpenSpec.upto pageToldSpec)) pageToldUptoCard

/-- THE SECOND FORM's CARD OF 'cashbooklaw06.PageMoved'. -/
def pageMovedUptoCard : Claim7 := { stood := { row := pageMovedUptoRow, standIns := [], harness := (true, "d948ed8b7856ccbf1ff93cc6ec3a7b098c2d3eafa08cf55520ed91d984580b53"), looks := false }, kinds := [], alts := [], laidByText := true, laidKinds := [.data], laidTests := true, laidLooks := .later }
def PageMovedUptoCardSaid : Prop := Claim7.holds Tryd.pinned (.plain (OpenSpec.upto pageMovedSpec)) pageMovedUptoCard
end Rows
end Go.Proofs.YtnhihkngelckoaaDoor
