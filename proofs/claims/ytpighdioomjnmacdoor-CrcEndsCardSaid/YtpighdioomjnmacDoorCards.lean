/-
  DERIVED. GIVEN WITH THE SEED: THE CARDS: each row of YtpighdioomjnmacDoorRows.lean that lists a variable, with what it lists TIED to the program's text (the seventh form; the later family's looks); each row that meets fmt, with fmt's text TOLD by the authors' own Lean function (tested against real Go, not proved from fmt's source: count such statements apart). THE CARD IS WHAT COUNTS. Prove the row's statement (the work); the ties are given (YtpighdioomjnmacDoorTie.lean); close each card by the builder's one call (the guide's Derived/Test/ToyasCard.lean, 'card_holds'). Laid BY PROGRAM, IN A SANDBOX (cutbox-door.mjs). By AI agents, Wed Nov 11 2026. No macro, syntax, notation, axiom, sorry.
-/
import Derived.Test.YtpighdioomjnmacDoorRows
import GoSem.ClaimSeven
namespace Go.Proofs.YtpighdioomjnmacDoor
namespace Rows

/-- THE TIED CARD OF 'furcatelaw20.CrcEnds'. -/
def crcEndsCard : Claim7 := { stood := { row := crcEndsRow, standIns := [], harness := (true, "cc275ed6b690198ca9c5743e80426fde7ae9af6d3c3aa1d5f33cbf586e9a2dde"), looks := false }, kinds := [], alts := [], laidByText := true, laidKinds := [.data], laidTests := true, laidLooks := .later }
def CrcEndsCardSaid : Prop := Claim7.holds Tryd.pinned (.plain (OpenSpec.ofChange crcEndsSpec)) crcEndsCard

/-- THE SECOND FORM's CARD OF 'furcatelaw20.CrcEnds'. -/
def crcEndsUptoCard : Claim7 := { stood := { row := crcEndsUptoRow, standIns := [], harness := (true, "cc275ed6b690198ca9c5743e80426fde7ae9af6d3c3aa1d5f33cbf586e9a2dde"), looks := false }, kinds := [], alts := [], laidByText := true, laidKinds := [.data], laidTests := true, laidLooks := .later }
def CrcEndsUptoCardSaid : Prop := Claim7.holds Tryd.pinned (.plain (OpenSpec.upto crcEndsSpec)) crcEndsUptoCard
end Rows
end Go.Proofs.YtpighdioomjnmacDoor
