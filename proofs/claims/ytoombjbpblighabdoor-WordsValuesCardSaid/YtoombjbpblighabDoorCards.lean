/-
  DERIVED. GIVEN WITH THE SEED: THE CARDS: each row of YtoombjbpblighabDoorRows.lean that lists a variable, with what it lists TIED to the program's text (the seventh form; the later family's looks); each row that meets fmt, with fmt's text TOLD by the authors' own Lean function (tested against real Go, not proved from fmt's source: count such statements apart). THE CARD IS WHAT COUNTS. Prove the row's statement (the work); the ties are given (YtoombjbpblighabDoorTie.lean); close each card by the builder's one call (the guide's Derived/Test/ToyasCard.lean, 'card_holds'). Laid BY PROGRAM, IN A SANDBOX (cutbox-door.mjs). By AI agents, Wed Nov 11 2026. No macro, syntax, notation, axiom, sorry.
-/
import Derived.Test.YtoombjbpblighabDoorRows
import GoSem.ClaimSeven
namespace Go.Proofs.YtoombjbpblighabDoor
namespace Rows

/-- THE TIED CARD OF 'furcatelaw22.WordsOnce'. -/
def wordsOnceCard : Claim7 := { stood := { row := wordsOnceRow, standIns := [], harness := (true, "d5c4818d3cfdaf91e112ee0251c172b492ce97aa16fc00d1951fb8c85481b33a"), looks := true }, kinds := [], alts := [], laidByText := true, laidKinds := [.data, .data, .data, .data, .sentinel, .sentinel, .pinned], laidTests := true, laidLooks := .later }
def WordsOnceCardSaid : Prop := Claim7.holds Tryd.pinned (.plain (OpenSpec.ofChange wordsOnceSpec)) wordsOnceCard

/-- THE TIED CARD OF 'furcatelaw22.WordsVerbs'. -/
def wordsVerbsCard : Claim7 := { stood := { row := wordsVerbsRow, standIns := [], harness := (true, "d5c4818d3cfdaf91e112ee0251c172b492ce97aa16fc00d1951fb8c85481b33a"), looks := true }, kinds := [], alts := [], laidByText := true, laidKinds := [.data, .data, .data, .data, .sentinel, .sentinel, .pinned], laidTests := true, laidLooks := .later }
def WordsVerbsCardSaid : Prop := Claim7.holds Tryd.pinned (.plain (OpenSpec.ofChange wordsVerbsSpec)) wordsVerbsCard

/-- THE TIED CARD OF 'furcatelaw22.WordsValues'. -/
def wordsValuesCard : Claim7 := { stood := { row := wordsValuesRow, standIns := [], harness := (true, "d5c4818d3cfdaf91e112ee0251c172b492ce97aa16fc00d1951fb8c85481b33a"), looks := true }, kinds := [], alts := [], laidByText := true, laidKinds := [.data, .data, .data, .data, .sentinel, .sentinel, .pinned], laidTests := true, laidLooks := .later }
def WordsValuesCardSaid : Prop := Claim7.holds Tryd.pinned (.plain (OpenSpec.ofChange wordsValuesSpec)) wordsValuesCard

/-- THE TIED CARD OF 'furcatelaw22.WordsBools'. -/
def wordsBoolsCard : Claim7 := { stood := { row := wordsBoolsRow, standIns := [], harness := (true, "d5c4818d3cfdaf91e112ee0251c172b492ce97aa16fc00d1951fb8c85481b33a"), looks := true }, kinds := [], alts := [], laidByText := true, laidKinds := [.data, .data, .data, .data, .sentinel, .sentinel, .pinned], laidTests := true, laidLooks := .later }
def WordsBoolsCardSaid : Prop := Claim7.holds Tryd.pinned (.plain (OpenSpec.ofChange wordsBoolsSpec)) wordsBoolsCard

/-- THE SECOND FORM's CARD OF 'furcatelaw22.WordsOnce'. -/
def wordsOnceUptoCard : Claim7 := { stood := { row := wordsOnceUptoRow, standIns := [], harness := (true, "d5c4818d3cfdaf91e112ee0251c172b492ce97aa16fc00d1951fb8c85481b33a"), looks := true }, kinds := [], alts := [], laidByText := true, laidKinds := [.data, .data, .data, .data, .sentinel, .sentinel, .pinned], laidTests := true, laidLooks := .later }
def WordsOnceUptoCardSaid : Prop := Claim7.holds Tryd.pinned (.plain (OpenSpec.upto wordsOnceSpec)) wordsOnceUptoCard

/-- THE SECOND FORM's CARD OF 'furcatelaw22.WordsVerbs'. -/
def wordsVerbsUptoCard : Claim7 := { stood := { row := wordsVerbsUptoRow, standIns := [], harness := (true, "d5c4818d3cfdaf91e112ee0251c172b492ce97aa16fc00d1951fb8c85481b33a"), looks := true }, kinds := [], alts := [], laidByText := true, laidKinds := [.data, .data, .data, .data, .sentinel, .sentinel, .pinned], laidTests := true, laidLooks := .later }
def WordsVerbsUptoCardSaid : Prop := Claim7.holds Tryd.pinned (.plain (OpenSpec.upto wordsVerbsSpec)) wordsVerbsUptoCard

/-- THE SECOND FORM's CARD OF 'furcatelaw22.WordsValues'. -/
def wordsValuesUptoCard : Claim7 := { stood := { row := wordsValuesUptoRow, standIns := [], harness := (true, "d5c4818d3cfdaf91e112ee0251c172b492ce97aa16fc00d1951fb8c85481b33a"), looks := true }, kinds := [], alts := [], laidByText := true, laidKinds := [.data, .data, .data, .data, .sentinel, .sentinel, .pinned], laidTests := true, laidLooks := .later }
def WordsValuesUptoCardSaid : Prop := Claim7.holds Tryd.pinned (.plain (OpenSpec.upto wordsValuesSpec)) wordsValuesUptoCard

/-- THE SECOND FORM's CARD OF 'furcatelaw22.WordsBools'. -/
def wordsBoolsUptoCard : Claim7 := { stood := { row := wordsBoolsUptoRow, standIns := [], harness := (true, "d5c4818d3cfdaf91e112ee0251c172b492ce97aa16fc00d1951fb8c85481b33a"), looks := true }, kinds := [], alts := [], laidByText := true, laidKinds := [.data, .data, .data, .data, .sentinel, .sentinel, .pinned], laidTests := true, laidLooks := .later }
def WordsBoolsUptoCardSaid : Prop := Claim7.holds Tryd.pinned (.plain (OpenSpec.upto wordsBoolsSpec)) wordsBoolsUptoCard
end Rows
end Go.Proofs.YtoombjbpblighabDoor
