/-
  Layer 22: what the row's variables give. Written by an AI agent.
-/
import Derived.Test.YtoombjbpblighabDoorRows
import Derived.Test.YtoombjbpblighabDoorWoN
import Derived.Stop.LaidErr
import Derived.LaidMore
import Derived.Stop.Joined
import Derived.ProofKit
import Derived.ChangeOld
namespace Go.Proofs.YtoombjbpblighabDoor
open Go Go.ChangeShapes Go.RowKit
set_option linter.unusedVariables false

theorem gPow : Tryd.prog.globalNamed "internal/strconv.uint64pow10" = some 1 := by kernel_rfl
theorem tPow : (Tryd.prog.globals[1]?).map (·.type) = some 86 := by kernel_rfl
theorem powData : Lib.tabData (H := Unit) .u64 Lib.pow10Tab = Rows.laid_internal_strconv_uint64pow10 := rfl
theorem gSyn : Tryd.prog.globalNamed "strconv.ErrSyntax" = some 2 := by kernel_rfl
theorem tSyn : (Tryd.prog.globals[2]?).map (·.type) = some 56 := by kernel_rfl
theorem gRng : Tryd.prog.globalNamed "strconv.ErrRange" = some 3 := by kernel_rfl
theorem tRng : (Tryd.prog.globals[3]?).map (·.type) = some 56 := by kernel_rfl
theorem cells108 : Tryd.prog.cellsOf 108 = 1 := by kernel_rfl
theorem cells9s : Tryd.prog.cellsOf 9 = 1 := by kernel_rfl
theorem star106 : "*" ++ "errors.errorString" = "*errors.errorString" := by decide
theorem row106 (u : TypeId) (h : Tryd.prog.typeName? 3 u = some "*errors.errorString") : u = 106 :=
  typeName_ptr_named (nm := "errors.errorString") (by rw [star106]; kernel_rfl) (by kernel_rfl) (by decide) u (by rw [star106]; exact h)

theorem wordW_of_laid {W : World} (h : laidMetH Tryd.prog Rows.wordsBoolsRow.laid W) : WordW W := by
  rw [MakeChecks.laidMetH_plain _ _ _ (by kernel_rfl)] at h
  have h2 := laidMet.tail (laidMet.tail h)
  have h4 := laidMet.tail (laidMet.tail h2)
  have h5 := laidMet.tail h4
  rw [← powData] at h2
  have hT := Lib.tabIs_of_head gPow tPow Tryd.underlying86 Tryd.underlying71 (by kernel_rfl) (by kernel_rfl) h2
  have hc := hT.cell gPow 0 (by decide)
  obtain ⟨a, s, hv, _, _, _⟩ := laid_sentinel h4 gRng tRng Tryd.underlying56 row106 Tryd.underlying106 Tryd.underlying108 rfl rfl Tryd.underlying9 cells108 cells9s
  obtain ⟨a5, s5, hv5, _, _, _⟩ := laid_sentinel h5 gSyn tSyn Tryd.underlying56 row106 Tryd.underlying106 Tryd.underlying108 rfl rfl Tryd.underlying9 cells108 cells9s
  refine ⟨⟨hT, fun p hp => by rw [gPow] at hp; cases hp; simpa using World.block_lt_of_cell? W _ hc⟩, ⟨2, 106, _, gSyn, ?_, hv5⟩, ⟨3, 106, _, gRng, ?_, hv⟩⟩
  · have h0 := World.var?_cell gSyn hv5 0
    exact World.block_lt_of_cell? W ⟨2, 0, none⟩ (by simpa using h0)
  · have h0 := World.var?_cell gRng hv 0
    exact World.block_lt_of_cell? W ⟨3, 0, none⟩ (by simpa using h0)

theorem below_ofw {f : Nat} {args : Array Value} {W : World} (h : Calls Tryd.prog f args W fun e w' => e = .returned (.bool true) ∧ Keeps (fun _ => False) W w') : Calls Tryd.prog f args W fun e w' => e = .returned (.bool true) ∧ Below W.heap.size W w' :=
  h.mono fun e w' h => ⟨h.1, h.2.toBelow (Nat.le_refl _) (fun _ h => h.elim)⟩
end Go.Proofs.YtoombjbpblighabDoor
