/-
  Layer 20: the walk of CrcAll. Written by an AI agent.
-/
import Derived.Test.YtpighdioomjnmabDoorAll0
import Derived.Test.YtpighdioomjnmabDoorAll1
import Derived.Test.YtpighdioomjnmabDoorAll2
namespace Go.Proofs.YtpighdioomjnmabDoor
open Go.RowKit
theorem all_walk (A1 : Option Addr) (c1 : Nat) (a : List Nat) (n : Nat) (w : World) (hn : n < 4294967296)
    (m1 : a.length ≤ 9223372036854775807) (k1 : a.length ≤ c1) (z1 : A1 = none → c1 = 0)
    (l1 : ∀ v ∈ a, v < 256) (r1 : Rd w w.heap.size A1 a) (ht : HasTab w) (h0 : 0 < w.heap.size) :
    Calls Tryd.prog 3 #[.slice A1 a.length c1, .int .u32 (n : Int)] w fun e w' => e = .returned (.bool true) ∧ Below w.heap.size w w' := by
  by_cases hs : Short (a.take 2000)
  · exact all_walk0 A1 c1 a n w hn m1 k1 z1 l1 r1 ht h0 hs
  · by_cases hg : Good (a.take 2000)
    · exact all_walk1 A1 c1 a n w hn m1 k1 z1 l1 r1 ht h0 ⟨hs, hg⟩
    · exact all_walk2 A1 c1 a n w hn m1 k1 z1 l1 r1 ht h0 ⟨hs, hg⟩
end Go.Proofs.YtpighdioomjnmabDoor
