/-
  Layer 5: the walk of ValueLogic. Written by an AI agent.
-/
import Derived.Test.YtlbbhgapdpeigaaDoorLog00
import Derived.Test.YtlbbhgapdpeigaaDoorLog01
import Derived.Test.YtlbbhgapdpeigaaDoorLog10
import Derived.Test.YtlbbhgapdpeigaaDoorLog11
namespace Go.Proofs.YtlbbhgapdpeigaaDoor.logic
open Go.RowKit
theorem walk (a b : Bool) (w : World) :
    Calls Tryd.prog 8 #[.bool a, .bool b] w fun e w' => e = .returned (.bool true) ∧ Below w.heap.size w w' := by
  cases a <;> cases b
  · exact logic_00 w
  · exact logic_01 w
  · exact logic_10 w
  · exact logic_11 w
end Go.Proofs.YtlbbhgapdpeigaaDoor.logic
