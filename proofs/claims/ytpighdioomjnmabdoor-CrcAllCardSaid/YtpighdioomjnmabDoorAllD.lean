/-
  Layer 20: the three ways of CrcAll. Written by an AI agent.
-/
import Derived.Test.YtpighdioomjnmabDoorCrcS
namespace Go.Proofs.YtpighdioomjnmabDoor
open Go.RowKit

theorem lt_take {l : List Nat} (h : ∀ v ∈ l, v < 256) (k : Nat) : ∀ v ∈ l.take k, v < 256 := fun v hv => h v (List.mem_of_mem_take hv)

/-- Which of the three ways the row of bytes goes. -/
def Short (x : List Nat) : Prop := x.length < 4
def Good (x : List Nat) : Prop := x.drop (x.length - 4) = le4 (goN 0 (x.take (x.length - 4)))
end Go.Proofs.YtpighdioomjnmabDoor
