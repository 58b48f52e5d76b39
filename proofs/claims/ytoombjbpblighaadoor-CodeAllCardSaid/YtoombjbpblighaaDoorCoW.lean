/-
  Layer 8: what the row's variables give. Written by an AI agent.
-/
import Derived.Test.YtoombjbpblighaaDoorRows
import Derived.Test.YtoombjbpblighaaDoorCoA
import Derived.Stop.LaidErr
import Derived.LaidMore
import Derived.Stop.Joined
import Derived.ProofKit
import Derived.ChangeOld
namespace Go.Proofs.YtoombjbpblighaaDoor
open Go Go.ChangeShapes Go.RowKit
set_option linter.unusedVariables false

theorem gPow : Tryd.prog.globalNamed "internal/strconv.uint64pow10" = some 3 := by kernel_rfl
theorem tPow : (Tryd.prog.globals[3]?).map (·.type) = some 133 := by kernel_rfl
theorem gSp : Tryd.prog.globalNamed "strings.asciiSpace" = some 0 := by kernel_rfl
theorem tSp : (Tryd.prog.globals[0]?).map (·.type) = some 90 := by kernel_rfl
theorem powData : Lib.tabData (H := Unit) .u64 Lib.pow10Tab = Rows.laid_internal_strconv_uint64pow10 := rfl
set_option maxRecDepth 1000000 in
theorem spData : Lib.tabData (H := Unit) .u8 Lib.asciiSpaceTab = Rows.laid_strings_asciiSpace := by kernel_rfl
theorem codeW_of_laid {W : World} (h : laidMetH Tryd.prog Rows.codeNamesRow.laid W) : CodeW W := by
  rw [MakeChecks.laidMetH_plain _ _ _ (by kernel_rfl)] at h
  have h2 := laidMet.tail (laidMet.tail h)
  have h4 := laidMet.tail (laidMet.tail h2)
  rw [← powData] at h2
  rw [← spData] at h4
  have hT := Lib.tabIs_of_head gPow tPow Tryd.underlying133 Tryd.underlying87 (by kernel_rfl) (by kernel_rfl) h2
  have hS := Lib.tabIs_of_head gSp tSp Tryd.underlying90 Tryd.underlying5 (by kernel_rfl) (by kernel_rfl) h4
  have hc := hT.cell gPow 0 (by decide)
  have hd := hS.cell gSp 0 (by rw [Lib.asciiSpaceTab_length]; decide)
  exact ⟨⟨hT, fun p hp => by rw [gPow] at hp; cases hp; simpa using World.block_lt_of_cell? W _ hc⟩, ⟨hS, fun p hp => by rw [gSp] at hp; cases hp; simpa using World.block_lt_of_cell? W _ hd⟩⟩

theorem below_ofc {f : Nat} {args : Array Value} {W : World} (h : Calls Tryd.prog f args W fun e w' => e = .returned (.bool true) ∧ Keeps (fun _ => False) W w') : Calls Tryd.prog f args W fun e w' => e = .returned (.bool true) ∧ Below W.heap.size W w' :=
  h.mono fun e w' h => ⟨h.1, h.2.toBelow (Nat.le_refl _) (fun _ h => h.elim)⟩

end Go.Proofs.YtoombjbpblighaaDoor
