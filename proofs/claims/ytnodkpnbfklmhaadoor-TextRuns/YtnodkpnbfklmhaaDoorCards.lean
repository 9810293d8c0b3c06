/-
  DERIVED. GIVEN WITH THE SEED: THE CARDS: each row of YtnodkpnbfklmhaaDoorRows.lean that lists a variable, with what it lists TIED to the program's text (the seventh form; the later family's looks); each row that meets fmt, with fmt's text TOLD by the authors' own Lean function (tested against real Go, not proved from fmt's source: count such statements apart). THE CARD IS WHAT COUNTS. Prove the row's statement (the work); the ties are given (YtnodkpnbfklmhaaDoorTie.lean); close each card by the builder's one call (the guide's Derived/Test/ToyasCard.lean, 'card_holds'). Laid BY PROGRAM, IN A SANDBOX (cutbox-door.mjs). By AI agents, Wed Nov 11 2026. No macro, syntax, notation, axiom, sorry.
-/
import Derived.Test.YtnodkpnbfklmhaaDoorRows
import GoSem.ClaimSeven
namespace Go.Proofs.YtnodkpnbfklmhaaDoor
namespace Rows

/-- THE TIED CARD OF 'forebearlaw04.TextLines'. -/
def textLinesCard : Claim7 := { stood := { row := textLinesRow, standIns := [], harness := (true, "f877a00fb9db3e31874b27bdf04064960760282a2b2b131f321b428a7b3dc084"), looks := false }, kinds := [], alts := [], laidByText := true, laidKinds := [.data, .pinned], laidTests := true, laidLooks := .later }
def TextLinesCardSaid : Prop := Claim7.holds Tryd.pinned (.plain (OpenSpec.ofChange textLinesSpec)) textLinesCard

/-- THE TIED CARD OF 'forebearlaw04.TextBack'. -/
def textBackCard : Claim7 := { stood := { row := textBackRow, standIns := [], harness := (true, "f877a00fb9db3e31874b27bdf04064960760282a2b2b131f321b428a7b3dc084"), looks := false }, kinds := [], alts := [], laidByText := true, laidKinds := [.data, .pinned], laidTests := true, laidLooks := .later }
def TextBackCardSaid : Prop := Claim7.holds Tryd.pinned (.plain (OpenSpec.ofChange textBackSpec)) textBackCard

/-- THE TIED CARD OF 'forebearlaw04.TextJoins'. -/
def textJoinsCard : Claim7 := { stood := { row := textJoinsRow, standIns := [], harness := (true, "f877a00fb9db3e31874b27bdf04064960760282a2b2b131f321b428a7b3dc084"), looks := false }, kinds := [], alts := [], laidByText := true, laidKinds := [.data, .pinned], laidTests := true, laidLooks := .later }
def TextJoinsCardSaid : Prop := Claim7.holds Tryd.pinned (.plain (OpenSpec.ofChange textJoinsSpec)) textJoinsCard

/-- THE TIED CARD OF 'forebearlaw04.TextRuns'. -/
def textRunsCard : Claim7 := { stood := { row := textRunsRow, standIns := [], harness := (true, "f877a00fb9db3e31874b27bdf04064960760282a2b2b131f321b428a7b3dc084"), looks := false }, kinds := [], alts := [], laidByText := true, laidKinds := [.data, .pinned], laidTests := true, laidLooks := .later }
def TextRunsCardSaid : Prop := Claim7.holds Tryd.pinned (.plain (OpenSpec.ofChange textRunsSpec)) textRunsCard

/-- THE TIED CARD OF 'forebearlaw04.TextIn'. -/
def textInCard : Claim7 := { stood := { row := textInRow, standIns := [], harness := (true, "f877a00fb9db3e31874b27bdf04064960760282a2b2b131f321b428a7b3dc084"), looks := false }, kinds := [], alts := [], laidByText := true, laidKinds := [.data, .pinned], laidTests := true, laidLooks := .later }
def TextInCardSaid : Prop := Claim7.holds Tryd.pinned (.plain (OpenSpec.ofChange textInSpec)) textInCard

/-- THE SECOND FORM's CARD OF 'forebearlaw04.TextLines'. -/
def textLinesUptoCard : Claim7 := { stood := { row := textLinesUptoRow, standIns := [], harness := (true, "f877a00fb9db3e31874b27bdf04064960760282a2b2b131f321b428a7b3dc084"), looks := false }, kinds := [], alts := [], laidByText := true, laidKinds := [.data, .pinned], laidTests := true, laidLooks := .later }
def TextLinesUptoCardSaid : Prop := Claim7.holds Tryd.pinned (.plain (OpenSpec.upto textLinesSpec)) textLinesUptoCard

/-- THE SECOND FORM's CARD OF 'forebearlaw04.TextBack'. -/
def textBackUptoCard : Claim7 := { stood := { row := textBackUptoRow, standIns := [], harness := (true, "f877a00fb9db3e31874b27bdf04064960760282a2b2b131f321b428a7b3dc084"), looks := false }, kinds := [], alts := [], laidByText := true, laidKinds := [.data, .pinned], laidTests := true, laidLooks := .later }
def TextBackUptoCardSaid : Prop := Claim7.holds Tryd.pinned (.plain (OpenSpec.upto textBackSpec)) textBackUptoCard

/-- THE SECOND FORM's CARD OF 'forebearlaw04.TextJoins'. -/
def textJoinsUptoCard : Claim7 := { stood := { row := textJoinsUptoRow, standIns := [], harness := (true, "f877a00fb9db3e31874b27bdf04064960760282a2b2b131f321b428a7b3dc084"), looks := false }, kinds := [], alts := [], laidByText := true, laidKinds := [.data, .pinned], laidTests := true, laidLooks := .later }
def TextJoinsUptoCardSaid : Prop := Claim7.holds Tryd.pinned (.plain (OpenSpec.upto textJoinsSpec)) textJoinsUptoCard

/-- THE SECOND FORM's CARD OF 'forebearlaw04.TextRuns'. -/
def textRunsUptoCard : Claim7 := { stood := { row := textRunsUptoRow, standIns := [], harness := (true, "f877a00fb9db3e31874b27bdf04064960760282a2b2b131f321b428a7b3dc084"), looks := false }, kinds := [], alts := [], laidByText := true, laidKinds := [.data, .pinned], laidTests := true, laidLooks := .later }
def TextRunsUptoCardSaid : Prop := Claim7.holds Tryd.pinned (.plain (OpenSpec.upto textRunsSpec)) textRunsUptoCard

/-- THE SECOND FORM's CARD OF 'forebearlaw04.TextIn'. -/
def textInUptoCard : Claim7 := { stood := { row := textInUptoRow, standIns := [], harness := (true, "f877a00fb9db3e31874b27bdf04064960760282a2b2b131f321b428a7b3dc084"), looks := false }, kinds := [], alts := [], laidByText := true, laidKinds := [.data, .pinned], laidTests := true, laidLooks := .later }
def TextInUptoCardSaid : Prop := Claim7.holds Tryd.pinned (.plain (OpenSpec.upto textInSpec)) textInUptoCard
end Rows
end Go.Proofs.YtnodkpnbfklmhaaDoor
