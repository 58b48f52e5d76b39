/-
  DERIVED. GIVEN WITH THE SEED: THE CARDS: each row of YtgelggdgbmldiaaDoorRows.lean that lists a variable, with what it lists TIED to the program's text (the seventh form; the later family's looks); each row that meets fmt, with fmt's text TOLD by the authors' own Lean function (tested against real Go, not proved from fmt's source: count such statements apart). THE CARD IS WHAT COUNTS. Prove the row's statement (the work); the ties are given (YtgelggdgbmldiaaDoorTie.lean); close each card by the builder's one call (the guide's Derived/Test/ToyasCard.lean, 'card_holds'). Laid BY PROGRAM, IN A SANDBOX (cutbox-door.mjs). By AI agents, Wed Nov 11 2026. No macro, syntax, notation, axiom, sorry.
-/
import Derived.Test.YtgelggdgbmldiaaDoorRows
import GoSem.ClaimSeven
namespace Go.Proofs.YtgelggdgbmldiaaDoor
namespace Rows

/-- THE TIED CARD OF 'furcatelaw02.ParseBelow'. -/
def parseBelowCard : Claim7 := { stood := { row := parseBelowRow, standIns := [], harness := (true, "c49544ca69df7a0cf6e20c0d436b57ccd68cea98677ec627c31d73494204cec4"), looks := true }, kinds := [], alts := [], laidByText := true, laidKinds := [.data, .data, .data, .sentinel, .sentinel], laidTests := true, laidLooks := .later }
def ParseBelowCardSaid : Prop := Claim7.holds Tryd.pinned (.plain (OpenSpec.ofChange parseBelowSpec)) parseBelowCard

/-- THE TIED CARD OF 'furcatelaw02.ParseDeep'. -/
def parseDeepCard : Claim7 := { stood := { row := parseDeepRow, standIns := [], harness := (true, "c49544ca69df7a0cf6e20c0d436b57ccd68cea98677ec627c31d73494204cec4"), looks := true }, kinds := [], alts := [], laidByText := true, laidKinds := [.data, .data, .data, .sentinel, .sentinel], laidTests := true, laidLooks := .later }
def ParseDeepCardSaid : Prop := Claim7.holds Tryd.pinned (.plain (OpenSpec.ofChange parseDeepSpec)) parseDeepCard

/-- THE TIED CARD OF 'furcatelaw02.ParseBoth'. -/
def parseBothCard : Claim7 := { stood := { row := parseBothRow, standIns := [], harness := (true, "c49544ca69df7a0cf6e20c0d436b57ccd68cea98677ec627c31d73494204cec4"), looks := true }, kinds := [], alts := [], laidByText := true, laidKinds := [.data, .data, .data, .sentinel, .sentinel], laidTests := true, laidLooks := .later }
def ParseBothCardSaid : Prop := Claim7.holds Tryd.pinned (.plain (OpenSpec.ofChange parseBothSpec)) parseBothCard

/-- THE TIED CARD OF 'furcatelaw02.ParseSides'. -/
def parseSidesCard : Claim7 := { stood := { row := parseSidesRow, standIns := [], harness := (true, "c49544ca69df7a0cf6e20c0d436b57ccd68cea98677ec627c31d73494204cec4"), looks := true }, kinds := [], alts := [], laidByText := true, laidKinds := [.data, .data, .data, .sentinel, .sentinel], laidTests := true, laidLooks := .later }
def ParseSidesCardSaid : Prop := Claim7.holds Tryd.pinned (.plain (OpenSpec.ofChange parseSidesSpec)) parseSidesCard

/-- THE TIED CARD OF 'furcatelaw03.ShowAll'. -/
def showAllCard : Claim7 := { stood := { row := showAllRow, standIns := [], harness := (true, "c49544ca69df7a0cf6e20c0d436b57ccd68cea98677ec627c31d73494204cec4"), looks := true }, kinds := [], alts := [], laidByText := true, laidKinds := [.data, .data, .data, .sentinel, .sentinel], laidTests := true, laidLooks := .later }
def ShowAllCardSaid : Prop := Claim7.holds Tryd.pinned (.plain (OpenSpec.ofChange showAllSpec)) showAllCard

/-- THE TIED CARD OF 'furcatelaw03.ShowBack'. -/
def showBackCard : Claim7 := { stood := { row := showBackRow, standIns := [], harness := (true, "c49544ca69df7a0cf6e20c0d436b57ccd68cea98677ec627c31d73494204cec4"), looks := true }, kinds := [], alts := [], laidByText := true, laidKinds := [.data, .data, .data, .sentinel, .sentinel], laidTests := true, laidLooks := .later }
def ShowBackCardSaid : Prop := Claim7.holds Tryd.pinned (.plain (OpenSpec.ofChange showBackSpec)) showBackCard

/-- THE TIED CARD OF 'furcatelaw03.ShowParts'. -/
def showPartsCard : Claim7 := { stood := { row := showPartsRow, standIns := [], harness := (true, "c49544ca69df7a0cf6e20c0d436b57ccd68cea98677ec627c31d73494204cec4"), looks := true }, kinds := [], alts := [], laidByText := true, laidKinds := [.data, .data, .data, .sentinel, .sentinel], laidTests := true, laidLooks := .later }
def ShowPartsCardSaid : Prop := Claim7.holds Tryd.pinned (.plain (OpenSpec.ofChange showPartsSpec)) showPartsCard

/-- THE TIED CARD OF 'furcatelaw03.ShowLines'. -/
def showLinesCard : Claim7 := { stood := { row := showLinesRow, standIns := [], harness := (true, "c49544ca69df7a0cf6e20c0d436b57ccd68cea98677ec627c31d73494204cec4"), looks := true }, kinds := [], alts := [], laidByText := true, laidKinds := [.data, .data, .data, .sentinel, .sentinel], laidTests := true, laidLooks := .later }
def ShowLinesCardSaid : Prop := Claim7.holds Tryd.pinned (.plain (OpenSpec.ofChange showLinesSpec)) showLinesCard

/-- THE SECOND FORM's CARD OF 'furcatelaw02.ParseBelow'. -/
def parseBelowUptoCard : Claim7 := { stood := { row := parseBelowUptoRow, standIns := [], harness := (true, "c49544ca69df7a0cf6e20c0d436b57ccd68cea98677ec627c31d73494204cec4"), looks := true }, kinds := [], alts := [], laidByText := true, laidKinds := [.data, .data, .data, .sentinel, .sentinel], laidTests := true, laidLooks := .later }
def ParseBelowUptoCardSaid : Prop := Claim7.holds Tryd.pinned (.plain (OpenSpec.upto parseBelowSpec)) parseBelowUptoCard

/-- THE SECOND FORM's CARD OF 'furcatelaw02.ParseDeep'. -/
def parseDeepUptoCard : Claim7 := { stood := { row := parseDeepUptoRow, standIns := [], harness := (true, "c49544ca69df7a0cf6e20c0d436b57ccd68cea98677ec627c31d73494204cec4"), looks := true }, kinds := [], alts := [], laidByText := true, laidKinds := [.data, .data, .data, .sentinel, .sentinel], laidTests := true, laidLooks := .later }
def ParseDeepUptoCardSaid : Prop := Claim7.holds Tryd.pinned (.plain (OpenSpec.upto parseDeepSpec)) parseDeepUptoCard

/-- THE SECOND FORM's CARD OF 'furcatelaw02.ParseBoth'. -/
def parseBothUptoCard : Claim7 := { stood := { row := parseBothUptoRow, standIns := [], harness := (true, "c49544ca69df7a0cf6e20c0d436b57ccd68cea98677ec627c31d73494204cec4"), looks := true }, kinds := [], alts := [], laidByText := true, laidKinds := [.data, .data, .data, .sentinel, .sentinel], laidTests := true, laidLooks := .later }
def ParseBothUptoCardSaid : Prop := Claim7.holds Tryd.pinned (.plain (OpenSpec.upto parseBothSpec)) parseBothUptoCard

/-- THE SECOND FORM's CARD OF 'furcatelaw02.ParseSides'. -/
def parseSidesUptoCard : Claim7 := { stood := { row := parseSidesUptoRow, standIns := [], harness := (true, "c49544ca69df7a0cf6e20c0d436b57ccd68cea98677ec627c31d73494204cec4"), looks := true }, kinds := [], alts := [], laidByText := true, laidKinds := [.data, .data, .data, .sentinel, .sentinel], laidTests := true, laidLooks := .later }
def ParseSidesUptoCardSaid : Prop := Claim7.holds Tryd.pinned (.plain (OpenSpec.upto parseSidesSpec)) parseSidesUptoCard

/-- THE SECOND FORM's CARD OF 'furcatelaw03.ShowAll'. -/
def showAllUptoCard : Claim7 := { stood := { row := showAllUptoRow, standIns := [], harness := (true, "c49544ca69df7a0cf6e20c0d436b57ccd68cea98677ec627c31d73494204cec4"), looks := true }, kinds := [], alts := [], laidByText := true, laidKinds := [.data, .data, .data, .sentinel, .sentinel], laidTests := true, laidLooks := .later }
def ShowAllUptoCardSaid : Prop := Claim7.holds Tryd.pinned (.plain (OpenSpec.upto showAllSpec)) showAllUptoCard

/-- THE SECOND FORM's CARD OF 'furcatelaw03.ShowBack'. -/
def showBackUptoCard : Claim7 := { stood := { row := showBackUptoRow, standIns := [], harness := (true, "c49544ca69df7a0cf6e20c0d436b57ccd68cea98677ec627c31d73494204cec4"), looks := true }, kinds := [], alts := [], laidByText := true, laidKinds := [.data, .data, .data, .sentinel, .sentinel], laidTests := true, laidLooks := .later }
def ShowBackUptoCardSaid : Prop := Claim7.holds Tryd.pinned (.plain (OpenSpec.upto showBackSpec)) showBackUptoCard

/-- THE SECOND FORM's CARD OF 'furcatelaw03.ShowParts'. -/
def showPartsUptoCard : Claim7 := { stood := { row := showPartsUptoRow, standIns := [], harness := (true, "c49544ca69df7a0cf6e20c0d436b57ccd68cea98677ec627c31d73494204cec4"), looks := true }, kinds := [], alts := [], laidByText := true, laidKinds := [.data, .data, .data, .sentinel, .sentinel], laidTests := true, laidLooks := .later }
def ShowPartsUptoCardSaid : Prop := Claim7.holds Tryd.pinned (.plain (OpenSpec.upto showPartsSpec)) showPartsUptoCard

/-- THE SECOND FORM's CARD OF 'furcatelaw03.ShowLines'. -/
def showLinesUptoCard : Claim7 := { stood := { row := showLinesUptoRow, standIns := [], harness := (true, "c49544ca69df7a0cf6e20c0d436b57ccd68cea98677ec627c31d73494204cec4"), looks := true }, kinds := [], alts := [], laidByText := true, laidKinds := [.data, .data, .data, .sentinel, .sentinel], laidTests := true, laidLooks := .later }
def ShowLinesUptoCardSaid : Prop := Claim7.holds Tryd.pinned (.plain (OpenSpec.upto showLinesSpec)) showLinesUptoCard
end Rows
end Go.Proofs.YtgelggdgbmldiaaDoor
