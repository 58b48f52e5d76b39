/-
  DERIVED. GIVEN WITH THE SEED: THE CARDS: each row of YtbhpnioggpgbhaaGreatDoorRows.lean that lists a variable, with what it lists TIED to the program's text (the seventh form; the later family's looks); each row that meets fmt, with fmt's text TOLD by the authors' own Lean function (tested against real Go, not proved from fmt's source: count such statements apart). THE CARD IS WHAT COUNTS. Prove the row's statement (the work); the ties are given (YtbhpnioggpgbhaaGreatDoorTie.lean); close each card by the builder's one call (the guide's Derived/Test/ToyasCard.lean, 'card_holds'). Laid BY PROGRAM, IN A SANDBOX (cutbox-door.mjs). By AI agents, Wed Nov 11 2026. No macro, syntax, notation, axiom, sorry.
-/
import Derived.Test.YtbhpnioggpgbhaaGreatDoorRows
import GoSem.ClaimSeven
namespace Go.Proofs.YtbhpnioggpgbhaaGreatDoor
namespace Rows

/-- THE TIED CARD OF 'furcatelaw04.CheckAll'. -/
def checkAllCard : Claim7 := { stood := { row := checkAllRow, standIns := [], harness := (true, "5910e4393bca10e5d50740cad9a27925a9288b36e3cfd04f5313d031b0f51bc3"), looks := true }, kinds := [], alts := [], laidByText := true, laidKinds := [.data, .data, .data, .sentinel, .sentinel], laidTests := true, laidLooks := .later }
def CheckAllCardSaid : Prop := Claim7.holds Tryz.pinned (.plain (OpenSpec.ofChange checkAllSpec)) checkAllCard

/-- THE TIED CARD OF 'furcatelaw04.CheckVisible'. -/
def checkVisibleCard : Claim7 := { stood := { row := checkVisibleRow, standIns := [], harness := (true, "5910e4393bca10e5d50740cad9a27925a9288b36e3cfd04f5313d031b0f51bc3"), looks := true }, kinds := [], alts := [], laidByText := true, laidKinds := [.data, .data, .data, .sentinel, .sentinel], laidTests := true, laidLooks := .later }
def CheckVisibleCardSaid : Prop := Claim7.holds Tryz.pinned (.plain (OpenSpec.ofChange checkVisibleSpec)) checkVisibleCard

/-- THE TIED CARD OF 'furcatelaw04.CheckTypes'. -/
def checkTypesCard : Claim7 := { stood := { row := checkTypesRow, standIns := [], harness := (true, "5910e4393bca10e5d50740cad9a27925a9288b36e3cfd04f5313d031b0f51bc3"), looks := true }, kinds := [], alts := [], laidByText := true, laidKinds := [.data, .data, .data, .sentinel, .sentinel], laidTests := true, laidLooks := .later }
def CheckTypesCardSaid : Prop := Claim7.holds Tryz.pinned (.plain (OpenSpec.ofChange checkTypesSpec)) checkTypesCard

/-- THE TIED CARD OF 'furcatelaw04.CheckRefuses'. -/
def checkRefusesCard : Claim7 := { stood := { row := checkRefusesRow, standIns := [], harness := (true, "5910e4393bca10e5d50740cad9a27925a9288b36e3cfd04f5313d031b0f51bc3"), looks := true }, kinds := [], alts := [], laidByText := true, laidKinds := [.data, .data, .data, .sentinel, .sentinel], laidTests := true, laidLooks := .later }
def CheckRefusesCardSaid : Prop := Claim7.holds Tryz.pinned (.plain (OpenSpec.ofChange checkRefusesSpec)) checkRefusesCard

/-- THE TIED CARD OF 'furcatelaw04.CheckSizes'. -/
def checkSizesCard : Claim7 := { stood := { row := checkSizesRow, standIns := [], harness := (true, "5910e4393bca10e5d50740cad9a27925a9288b36e3cfd04f5313d031b0f51bc3"), looks := true }, kinds := [], alts := [], laidByText := true, laidKinds := [.data, .data, .data, .sentinel, .sentinel], laidTests := true, laidLooks := .later }
def CheckSizesCardSaid : Prop := Claim7.holds Tryz.pinned (.plain (OpenSpec.ofChange checkSizesSpec)) checkSizesCard

/-- THE TIED CARD OF 'furcatelaw04.CheckMoves'. -/
def checkMovesCard : Claim7 := { stood := { row := checkMovesRow, standIns := [], harness := (true, "5910e4393bca10e5d50740cad9a27925a9288b36e3cfd04f5313d031b0f51bc3"), looks := true }, kinds := [], alts := [], laidByText := true, laidKinds := [.data, .data, .data, .sentinel, .sentinel], laidTests := true, laidLooks := .later }
def CheckMovesCardSaid : Prop := Claim7.holds Tryz.pinned (.plain (OpenSpec.ofChange checkMovesSpec)) checkMovesCard

/-- THE SECOND FORM's CARD OF 'furcatelaw04.CheckAll'. -/
def checkAllUptoCard : Claim7 := { stood := { row := checkAllUptoRow, standIns := [], harness := (true, "5910e4393bca10e5d50740cad9a27925a9288b36e3cfd04f5313d031b0f51bc3"), looks := true }, kinds := [], alts := [], laidByText := true, laidKinds := [.data, .data, .data, .sentinel, .sentinel], laidTests := true, laidLooks := .later }
def CheckAllUptoCardSaid : Prop := Claim7.holds Tryz.pinned (.plain (OpenSpec.upto checkAllSpec)) checkAllUptoCard

/-- THE SECOND FORM's CARD OF 'furcatelaw04.CheckVisible'. -/
def checkVisibleUptoCard : Claim7 := { stood := { row := checkVisibleUptoRow, standIns := [], harness := (true, "5910e4393bca10e5d50740cad9a27925a9288b36e3cfd04f5313d031b0f51bc3"), looks := true }, kinds := [], alts := [], laidByText := true, laidKinds := [.data, .data, .data, .sentinel, .sentinel], laidTests := true, laidLooks := .later }
def CheckVisibleUptoCardSaid : Prop := Claim7.holds Tryz.pinned (.plain (OpenSpec.upto checkVisibleSpec)) checkVisibleUptoCard

/-- THE SECOND FORM's CARD OF 'furcatelaw04.CheckTypes'. -/
def checkTypesUptoCard : Claim7 := { stood := { row := checkTypesUptoRow, standIns := [], harness := (true, "5910e4393bca10e5d50740cad9a27925a9288b36e3cfd04f5313d031b0f51bc3"), looks := true }, kinds := [], alts := [], laidByText := true, laidKinds := [.data, .data, .data, .sentinel, .sentinel], laidTests := true, laidLooks := .later }
def CheckTypesUptoCardSaid : Prop := Claim7.holds Tryz.pinned (.plain (OpenSpec.upto checkTypesSpec)) checkTypesUptoCard

/-- THE SECOND FORM's CARD OF 'furcatelaw04.CheckRefuses'. -/
def checkRefusesUptoCard : Claim7 := { stood := { row := checkRefusesUptoRow, standIns := [], harness := (true, "5910e4393bca10e5d50740cad9a27925a9288b36e3cfd04f5313d031b0f51bc3"), looks := true }, kinds := [], alts := [], laidByText := true, laidKinds := [.data, .data, .data, .sentinel, .sentinel], laidTests := true, laidLooks := .later }
def CheckRefusesUptoCardSaid : Prop := Claim7.holds Tryz.pinned (.plain (OpenSpec.upto checkRefusesSpec)) checkRefusesUptoCard

/-- THE SECOND FORM's CARD OF 'furcatelaw04.CheckSizes'. -/
def checkSizesUptoCard : Claim7 := { stood := { row := checkSizesUptoRow, standIns := [], harness := (true, "5910e4393bca10e5d50740cad9a27925a9288b36e3cfd04f5313d031b0f51bc3"), looks := true }, kinds := [], alts := [], laidByText := true, laidKinds := [.data, .data, .data, .sentinel, .sentinel], laidTests := true, laidLooks := .later }
def CheckSizesUptoCardSaid : Prop := Claim7.holds Tryz.pinned (.plain (OpenSpec.upto checkSizesSpec)) checkSizesUptoCard

/-- THE SECOND FORM's CARD OF 'furcatelaw04.CheckMoves'. -/
def checkMovesUptoCard : Claim7 := { stood := { row := checkMovesUptoRow, standIns := [], harness := (true, "5910e4393bca10e5d50740cad9a27925a9288b36e3cfd04f5313d031b0f51bc3"), looks := true }, kinds := [], alts := [], laidByText := true, laidKinds := [.data, .data, .data, .sentinel, .sentinel], laidTests := true, laidLooks := .later }
def CheckMovesUptoCardSaid : Prop := Claim7.holds Tryz.pinned (.plain (OpenSpec.upto checkMovesSpec)) checkMovesUptoCard
end Rows
end Go.Proofs.YtbhpnioggpgbhaaGreatDoor
