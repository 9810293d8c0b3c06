/-
  DERIVED. GIVEN WITH THE SEED: THE CARDS: each row of YtdgdckmhmmigkaaDoorRows.lean that lists a variable, with what it lists TIED to the program's text (the seventh form; the later family's looks); each row that meets fmt, with fmt's text TOLD by the authors' own Lean function (tested against real Go, not proved from fmt's source: count such statements apart). THE CARD IS WHAT COUNTS. Prove the row's statement (the work); the ties are given (YtdgdckmhmmigkaaDoorTie.lean); close each card by the builder's one call (the guide's Derived/Test/ToyasCard.lean, 'card_holds'). Laid BY PROGRAM, IN A SANDBOX (cutbox-door.mjs). By AI agents, Wed Nov 11 2026. No macro, syntax, notation, axiom, sorry.
-/
import Derived.Test.YtdgdckmhmmigkaaDoorRows
import GoSem.ClaimSeven
namespace Go.Proofs.YtdgdckmhmmigkaaDoor
namespace Rows

/-- THE TIED CARD OF 'forebearlaw24.CheckTells'. -/
def checkTellsCard : Claim7 := { stood := { row := checkTellsRow, standIns := [], harness := (true, "2de162f3fd86ad87d8c753985ce3b21089fbe2a6b4e460b3d0ce4dc2223b78b2"), looks := true }, kinds := [], alts := [], laidByText := true, laidKinds := [.data, .data, .data, .sentinel, .sentinel, .data, .data, .widerDeep], laidTests := true, laidLooks := .later }
def CheckTellsCardSaid : Prop := Claim7.holds Tryd.pinned (.plain (OpenSpec.ofChange checkTellsSpec)) checkTellsCard

/-- THE TIED CARD OF 'forebearlaw24.CheckParts'. -/
def checkPartsCard : Claim7 := { stood := { row := checkPartsRow, standIns := [], harness := (true, "2de162f3fd86ad87d8c753985ce3b21089fbe2a6b4e460b3d0ce4dc2223b78b2"), looks := true }, kinds := [], alts := [], laidByText := true, laidKinds := [.data, .data, .data, .sentinel, .sentinel, .data, .data, .widerDeep], laidTests := true, laidLooks := .later }
def CheckPartsCardSaid : Prop := Claim7.holds Tryd.pinned (.plain (OpenSpec.ofChange checkPartsSpec)) checkPartsCard

/-- THE TIED CARD OF 'forebearlaw24.CheckShown'. -/
def checkShownCard : Claim7 := { stood := { row := checkShownRow, standIns := [], harness := (true, "2de162f3fd86ad87d8c753985ce3b21089fbe2a6b4e460b3d0ce4dc2223b78b2"), looks := true }, kinds := [], alts := [], laidByText := true, laidKinds := [.data, .data, .data, .sentinel, .sentinel, .data, .data, .widerDeep], laidTests := true, laidLooks := .later }
def CheckShownCardSaid : Prop := Claim7.holds Tryd.pinned (.plain (OpenSpec.ofChange checkShownSpec)) checkShownCard

/-- THE SECOND FORM's CARD OF 'forebearlaw24.CheckTells'. -/
def checkTellsUptoCard : Claim7 := { stood := { row := checkTellsUptoRow, standIns := [], harness := (true, "2de162f3fd86ad87d8c753985ce3b21089fbe2a6b4e460b3d0ce4dc2223b78b2"), looks := true }, kinds := [], alts := [], laidByText := true, laidKinds := [.data, .data, .data, .sentinel, .sentinel, .data, .data, .widerDeep], laidTests := true, laidLooks := .later }
def CheckTellsUptoCardSaid : Prop := Claim7.holds Tryd.pinned (.plain (OpenSpec.upto checkTellsSpec)) checkTellsUptoCard

/-- THE SECOND FORM's CARD OF 'forebearlaw24.CheckParts'. -/
def checkPartsUptoCard : Claim7 := { stood := { row := checkPartsUptoRow, standIns := [], harness := (true, "2de162f3fd86ad87d8c753985ce3b21089fbe2a6b4e460b3d0ce4dc2223b78b2"), looks := true }, kinds := [], alts := [], laidByText := true, laidKinds := [.data, .data, .data, .sentinel, .sentinel, .data, .data, .widerDeep], laidTests := true, laidLooks := .later }
def CheckPartsUptoCardSaid : Prop := Claim7.holds Tryd.pinned (.plain (OpenSpec.upto checkPartsSpec)) checkPartsUptoCard

/-- THE SECOND FORM's CARD OF 'forebearlaw24.CheckShown'. -/
def checkShownUptoCard : Claim7 := { stood := { row := checkShownUptoRow, standIns := [], harness := (true, "2de162f3fd86ad87d8c753985ce3b21089fbe2a6b4e460b3d0ce4dc2223b78b2"), looks := true }, kinds := [], alts := [], laidByText := true, laidKinds := [.data, .data, .data, .sentinel, .sentinel, .data, .data, .widerDeep], laidTests := true, laidLooks := .later }
def CheckShownUptoCardSaid : Prop := Claim7.holds Tryd.pinned (.plain (OpenSpec.upto checkShownSpec)) checkShownUptoCard
end Rows
end Go.Proofs.YtdgdckmhmmigkaaDoor
