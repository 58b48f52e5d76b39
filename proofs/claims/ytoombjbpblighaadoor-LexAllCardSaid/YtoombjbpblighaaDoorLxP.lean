/-
  Layer 1: what the row's variables give. Written by an AI agent.
-/
import Derived.Test.YtoombjbpblighaaDoorRows
import Derived.Test.YtoombjbpblighaaDoorLxI
import Derived.Stop.LaidErr
import Derived.LaidMore
import Derived.Stop.Joined
import Derived.ProofKit
import Derived.ChangeOld
namespace Go.Proofs.YtoombjbpblighaaDoor
open Go Go.ChangeShapes Go.RowKit
set_option linter.unusedVariables false

theorem gErr : Tryd.prog.globalNamed "strconv.ErrRange" = some 5 := by kernel_rfl
theorem gErrType : (Tryd.prog.globals[5]?).map (·.type) = some 95 := by kernel_rfl
theorem cells146 : Tryd.prog.cellsOf 146 = 1 := by kernel_rfl
theorem cells9s : Tryd.prog.cellsOf 9 = 1 := by kernel_rfl
theorem star144 : "*" ++ "errors.errorString" = "*errors.errorString" := by decide
theorem row144 (u : TypeId) (h : Tryd.prog.typeName? 3 u = some "*errors.errorString") : u = 144 :=
  typeName_ptr_named (nm := "errors.errorString") (by rw [star144]; kernel_rfl) (by kernel_rfl) (by decide) u (by rw [star144]; exact h)

theorem errW_of_laid {W : World} (h : laidMetH Tryd.prog Rows.lexTextsRow.laid W) : ErrW W := by
  rw [MakeChecks.laidMetH_plain _ _ _ (by kernel_rfl)] at h
  have h2 := laidMet.tail (laidMet.tail (laidMet.tail h))
  obtain ⟨a, s, hv, _, _, _⟩ := laid_sentinel h2 gErr gErrType Tryd.underlying95 row144 Tryd.underlying144 Tryd.underlying146 rfl rfl Tryd.underlying9 cells146 cells9s
  refine ⟨5, 144, _, gErr, ?_, hv⟩
  have h0 := World.var?_cell gErr hv 0
  exact World.block_lt_of_cell? W ⟨5, 0, none⟩ (by simpa using h0)

theorem below_of {f : Nat} {args : Array Value} {W : World} (h : Calls Tryd.prog f args W fun e w' => e = .returned (.bool true) ∧ Keeps (fun _ => False) W w') : Calls Tryd.prog f args W fun e w' => e = .returned (.bool true) ∧ Below W.heap.size W w' :=
  h.mono fun e w' h => ⟨h.1, h.2.toBelow (Nat.le_refl _) (fun _ h => h.elim)⟩

end Go.Proofs.YtoombjbpblighaaDoor
