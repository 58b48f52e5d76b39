/-
  Layer 22: the library's contracts. Written by an AI agent.
-/
import Derived.Test.YtoombjbpblighabDoorWoK
import Derived.Shelf.Strings.Split
import Derived.Shelf.Lay
import Derived.Ground.NamesProg
import Derived.Lib.LaidTab
import Derived.Shelf.Strings.Search3
import Derived.Shelf.Strconv.AtoiAll
import Derived.Shelf.Strconv.Itoa3
import Derived.Lib.ItoaMem
import Derived.Lib.ItoaLen
namespace Go.Proofs.YtoombjbpblighabDoor
open Go Go.RowKit Go.Shelf
set_option linter.unusedVariables false
set_option linter.unusedSimpArgs false

shelf_lay LaysM.n171 Nm 171 at Tryd as laysItoa
shelf_lay LaysC.n172 Nm 172 at Tryd as laysAtoi
shelf_lay Lays.n146 Nm 146 at Tryd as laysSplit
end Go.Proofs.YtoombjbpblighabDoor
