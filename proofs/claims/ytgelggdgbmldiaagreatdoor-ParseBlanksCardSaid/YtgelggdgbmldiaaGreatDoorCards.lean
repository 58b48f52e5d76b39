/-
  DERIVED. GIVEN WITH THE SEED: THE CARDS: each row of YtgelggdgbmldiaaGreatDoorRows.lean that lists a variable, with what it lists TIED to the program's text (the seventh form; the later family's looks); each row that meets fmt, with fmt's text TOLD by the authors' own Lean function (tested against real Go, not proved from fmt's source: count such statements apart). THE CARD IS WHAT COUNTS. Prove the row's statement (the work); the ties are given (YtgelggdgbmldiaaGreatDoorTie.lean); close each card by the builder's one call (the guide's Derived/Test/ToyasCard.lean, 'card_holds'). Laid BY PROGRAM, IN A SANDBOX (cutbox-door.mjs). By AI agents, Wed Nov 11 2026. No macro, syntax, notation, axiom, sorry.
-/
import Derived.Test.YtgelggdgbmldiaaGreatDoorRows
import GoSem.ClaimSeven
namespace Go.Proofs.YtgelggdgbmldiaaGreatDoor
namespace Rows

/-- THE TIED CARD OF 'furcatelaw02.ParseAll'. -/
def parseAllCard : Claim7 := { stood := { row := parseAllRow, standIns := [], harness := (true, "cee8434c4c6146addd6f98d2f508a99da348a212e8f6037e0e1b18abbccc9116"), looks := true }, kinds := [], alts := [], laidByText := true, laidKinds := [.data, .data, .data, .sentinel, .sentinel], laidTests := true, laidLooks := .later }
def ParseAllCardSaid : Prop := Claim7.holds Tryz.pinned (.plain (OpenSpec.ofChange parseAllSpec)) parseAllCard

/-- THE TIED CARD OF 'furcatelaw02.ParseRefuses'. -/
def parseRefusesCard : Claim7 := { stood := { row := parseRefusesRow, standIns := [], harness := (true, "cee8434c4c6146addd6f98d2f508a99da348a212e8f6037e0e1b18abbccc9116"), looks := true }, kinds := [], alts := [], laidByText := true, laidKinds := [.data, .data, .data, .sentinel, .sentinel], laidTests := true, laidLooks := .later }
def ParseRefusesCardSaid : Prop := Claim7.holds Tryz.pinned (.plain (OpenSpec.ofChange parseRefusesSpec)) parseRefusesCard

/-- THE TIED CARD OF 'furcatelaw02.ParseBlanks'. -/
def parseBlanksCard : Claim7 := { stood := { row := parseBlanksRow, standIns := [], harness := (true, "cee8434c4c6146addd6f98d2f508a99da348a212e8f6037e0e1b18abbccc9116"), looks := true }, kinds := [], alts := [], laidByText := true, laidKinds := [.data, .data, .data, .sentinel, .sentinel], laidTests := true, laidLooks := .later }
def ParseBlanksCardSaid : Prop := Claim7.holds Tryz.pinned (.plain (OpenSpec.ofChange parseBlanksSpec)) parseBlanksCard

/-- THE SECOND FORM's CARD OF 'furcatelaw02.ParseAll'. -/
def parseAllUptoCard : Claim7 := { stood := { row := parseAllUptoRow, standIns := [], harness := (true, "cee8434c4c6146addd6f98d2f508a99da348a212e8f6037e0e1b18abbccc9116"), looks := true }, kinds := [], alts := [], laidByText := true, laidKinds := [.data, .data, .data, .sentinel, .sentinel], laidTests := true, laidLooks := .later }
def ParseAllUptoCardSaid : Prop := Claim7.holds Tryz.pinned (.plain (OpenSpec.upto parseAllSpec)) parseAllUptoCard

/-- THE SECOND FORM's CARD OF 'furcatelaw02.ParseRefuses'. -/
def parseRefusesUptoCard : Claim7 := { stood := { row := parseRefusesUptoRow, standIns := [], harness := (true, "cee8434c4c6146addd6f98d2f508a99da348a212e8f6037e0e1b18abbccc9116"), looks := true }, kinds := [], alts := [], laidByText := true, laidKinds := [.data, .data, .data, .sentinel, .sentinel], laidTests := true, laidLooks := .later }
def ParseRefusesUptoCardSaid : Prop := Claim7.holds Tryz.pinned (.plain (OpenSpec.upto parseRefusesSpec)) parseRefusesUptoCard

/-- THE SECOND FORM's CARD OF 'furcatelaw02.ParseBlanks'. -/
def parseBlanksUptoCard : Claim7 := { stood := { row := parseBlanksUptoRow, standIns := [], harness := (true, "cee8434c4c6146addd6f98d2f508a99da348a212e8f6037e0e1b18abbccc9116"), looks := true }, kinds := [], alts := [], laidByText := true, laidKinds := [.data, .data, .data, .sentinel, .sentinel], laidTests := true, laidLooks := .later }
def ParseBlanksUptoCardSaid : Prop := Claim7.holds Tryz.pinned (.plain (OpenSpec.upto parseBlanksSpec)) parseBlanksUptoCard
end Rows
end Go.Proofs.YtgelggdgbmldiaaGreatDoor
