/-
  DERIVED. GIVEN WITH THE SEED: THE CARDS: each row of YtlcnefeikejcaaaGreatDoorRows.lean that lists a variable, with what it lists TIED to the program's text (the seventh form; the later family's looks); each row that meets fmt, with fmt's text TOLD by the authors' own Lean function (tested against real Go, not proved from fmt's source: count such statements apart). THE CARD IS WHAT COUNTS. Prove the row's statement (the work); the ties are given (YtlcnefeikejcaaaGreatDoorTie.lean); close each card by the builder's one call (the guide's Derived/Test/ToyasCard.lean, 'card_holds'). Laid BY PROGRAM, IN A SANDBOX (cutbox-door.mjs). By AI agents, Wed Nov 11 2026. No macro, syntax, notation, axiom, sorry.
-/
import Derived.Test.YtlcnefeikejcaaaGreatDoorRows
import GoSem.ClaimSeven
namespace Go.Proofs.YtlcnefeikejcaaaGreatDoor
namespace Rows

/-- THE TIED CARD OF 'cashbooklaw10.PagerPlays'. -/
def pagerPlaysCard : Claim7 := { stood := { row := pagerPlaysRow, standIns := [], harness := (true, "5095d24587ab05450539f0ac7d4742874904db1d39e9c5bc7646320ffd00a7d2"), looks := true }, kinds := [], alts := [], laidByText := true, laidKinds := [.data], laidTests := true, laidLooks := .later }
def PagerPlaysCardSaid : Prop := Claim7.holds Tryz.pinned (.plain (OpenSpec.ofChange pagerPlaysSpec)) pagerPlaysCard

/-- THE TIED CARD OF 'cashbooklaw10.PagerOpens'. -/
def pagerOpensCard : Claim7 := { stood := { row := pagerOpensRow, standIns := [], harness := (true, "5095d24587ab05450539f0ac7d4742874904db1d39e9c5bc7646320ffd00a7d2"), looks := true }, kinds := [], alts := [], laidByText := true, laidKinds := [.data], laidTests := true, laidLooks := .later }
def PagerOpensCardSaid : Prop := Claim7.holds Tryz.pinned (.plain (OpenSpec.ofChange pagerOpensSpec)) pagerOpensCard

/-- THE TIED CARD OF 'cashbooklaw10.PagerParts'. -/
def pagerPartsCard : Claim7 := { stood := { row := pagerPartsRow, standIns := [], harness := (true, "5095d24587ab05450539f0ac7d4742874904db1d39e9c5bc7646320ffd00a7d2"), looks := true }, kinds := [], alts := [], laidByText := true, laidKinds := [.data], laidTests := true, laidLooks := .later }
def PagerPartsCardSaid : Prop := Claim7.holds Tryz.pinned (.plain (OpenSpec.ofChange pagerPartsSpec)) pagerPartsCard

/-- THE TIED CARD OF 'cashbooklaw10.PagerCrash'. -/
def pagerCrashCard : Claim7 := { stood := { row := pagerCrashRow, standIns := [], harness := (true, "5095d24587ab05450539f0ac7d4742874904db1d39e9c5bc7646320ffd00a7d2"), looks := true }, kinds := [], alts := [], laidByText := true, laidKinds := [.data], laidTests := true, laidLooks := .later }
def PagerCrashCardSaid : Prop := Claim7.holds Tryz.pinned (.plain (OpenSpec.ofChange pagerCrashSpec)) pagerCrashCard

/-- THE TIED CARD OF 'cashbooklaw10.PagerLeast'. -/
def pagerLeastCard : Claim7 := { stood := { row := pagerLeastRow, standIns := [], harness := (true, "5095d24587ab05450539f0ac7d4742874904db1d39e9c5bc7646320ffd00a7d2"), looks := true }, kinds := [], alts := [], laidByText := true, laidKinds := [.data], laidTests := true, laidLooks := .later }
def PagerLeastCardSaid : Prop := Claim7.holds Tryz.pinned (.plain (OpenSpec.ofChange pagerLeastSpec)) pagerLeastCard

/-- THE SECOND FORM's CARD OF 'cashbooklaw10.PagerPlays'. -/
def pagerPlaysUptoCard : Claim7 := { stood := { row := pagerPlaysUptoRow, standIns := [], harness := (true, "5095d24587ab05450539f0ac7d4742874904db1d39e9c5bc7646320ffd00a7d2"), looks := true }, kinds := [], alts := [], laidByText := true, laidKinds := [.data], laidTests := true, laidLooks := .later }
def PagerPlaysUptoCardSaid : Prop := Claim7.holds Tryz.pinned (.plain (OpenSpec.upto pagerPlaysSpec)) pagerPlaysUptoCard

/-- THE SECOND FORM's CARD OF 'cashbooklaw10.PagerOpens'. -/
def pagerOpensUptoCard : Claim7 := { stood := { row := pagerOpensUptoRow, standIns := [], harness := (true, "5095d24587ab05450539f0ac7d4742874904db1d39e9c5bc7646320ffd00a7d2"), looks := true }, kinds := [], alts := [], laidByText := true, laidKinds := [.data], laidTests := true, laidLooks := .later }
def PagerOpensUptoCardSaid : Prop := Claim7.holds Tryz.pinned (.plain (OpenSpec.upto pagerOpensSpec)) pagerOpensUptoCard

/-- THE SECOND FORM's CARD OF 'cashbooklaw10.PagerParts'. -/
def pagerPartsUptoCard : Claim7 := { stood := { row := pagerPartsUptoRow, standIns := [], harness := (true, "5095d24587ab05450539f0ac7d4742874904db1d39e9c5bc7646320ffd00a7d2"), looks := true }, kinds := [], alts := [], laidByText := true, laidKinds := [.data], laidTests := true, laidLooks := .later }
def PagerPartsUptoCardSaid : Prop := Claim7.holds Tryz.pinned (.plain (OpenSpec.upto pagerPartsSpec)) pagerPartsUptoCard

/-- THE SECOND FORM's CARD OF 'cashbooklaw10.PagerCrash'. -/
def pagerCrashUptoCard : Claim7 := { stood := { row := pagerCrashUptoRow, standIns := [], harness := (true, "5095d24587ab05450539f0ac7d4742874904db1d39e9c5bc7646320ffd00a7d2"), looks := true }, kinds := [], alts := [], laidByText := true, laidKinds := [.data], laidTests := true, laidLooks := .later }
def PagerCrashUptoCardSaid : Prop := Claim7.holds Tryz.pinned (.plain (OpenSpec.upto pagerCrashSpec)) pagerCrashUptoCard

/-- THE SECOND FORM's CARD OF 'cashbooklaw10.PagerLeast'. -/
def pagerLeastUptoCard : Claim7 := { stood := { row := pagerLeastUptoRow, standIns := [], harness := (true, "5095d24587ab05450539f0ac7d4742874904db1d39e9c5bc7646320ffd00a7d2"), looks := true }, kinds := [], alts := [], laidByText := true, laidKinds := [.data], laidTests := true, laidLooks := .later }
def PagerLeastUptoCardSaid : Prop := Claim7.holds Tryz.pinned (.plain (OpenSpec.upto pagerLeastSpec)) pagerLeastUptoCard
end Rows
end Go.Proofs.YtlcnefeikejcaaaGreatDoor
