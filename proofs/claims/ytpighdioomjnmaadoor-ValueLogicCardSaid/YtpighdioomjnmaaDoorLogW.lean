/-
  Layer 5: the walk of ValueLogic. Written by an AI agent.
-/
import Derived.Test.YtpighdioomjnmaaDoorLog00
import Derived.Test.YtpighdioomjnmaaDoorLog01
import Derived.Test.YtpighdioomjnmaaDoorLog10
import Derived.Test.YtpighdioomjnmaaDoorLog11
namespace Go.Proofs.YtpighdioomjnmaaDoor.logic
open Go.RowKit
theorem walk (a b : Bool) (w : World) :
    Calls Tryd.prog 8 #[.bool a, .bool b] w fun e w' => e = .returned (.bool true) ∧ Below w.heap.size w w' := by
  cases a <;> cases b
  · exact logic_00 w
  · exact logic_01 w
  · exact logic_10 w
  · exact logic_11 w
end Go.Proofs.YtpighdioomjnmaaDoor.logic
