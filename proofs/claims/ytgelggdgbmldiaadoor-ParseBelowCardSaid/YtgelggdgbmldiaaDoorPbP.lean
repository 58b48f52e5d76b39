/-
  Layer 2: the start of a row. Written by an AI agent.
-/
import Derived.Test.YtgelggdgbmldiaaDoorRows
import Derived.Test.YtgelggdgbmldiaaDoorLxI
import Derived.Stop.LaidErr
import Derived.LaidMore
import Derived.Stop.Joined
import Derived.ProofKit
import Derived.ChangeOld
namespace Go.Proofs.YtgelggdgbmldiaaDoor
open Go Go.ChangeShapes Go.RowKit
set_option linter.unusedVariables false

theorem gErr : Tryd.prog.globalNamed "strconv.ErrRange" = some 3 := by kernel_rfl
theorem gErrType : (Tryd.prog.globals[3]?).map (·.type) = some 75 := by kernel_rfl
theorem cellsErr : Tryd.prog.cellsOf 147 = 1 := by kernel_rfl
theorem cells9s : Tryd.prog.cellsOf 9 = 1 := by kernel_rfl
theorem starErr : "*" ++ "errors.errorString" = "*errors.errorString" := by decide
theorem rowErr (u : TypeId) (h : Tryd.prog.typeName? 3 u = some "*errors.errorString") : u = 145 :=
  typeName_ptr_named (nm := "errors.errorString") (by rw [starErr]; kernel_rfl) (by kernel_rfl) (by decide) u (by rw [starErr]; exact h)

theorem errW_of_laid {W : World} (h : laidMetH Tryd.prog Rows.parseSidesRow.laid W) : ErrW W := by
  rw [MakeChecks.laidMetH_plain _ _ _ (by kernel_rfl)] at h
  have h2 := laidMet.tail (laidMet.tail (laidMet.tail h))
  obtain ⟨a, s, hv, _, _, _⟩ := laid_sentinel h2 gErr gErrType Tryd.underlying75 rowErr Tryd.underlying145 Tryd.underlying147 rfl rfl Tryd.underlying9 cellsErr cells9s
  refine ⟨3, 145, _, gErr, ?_, hv⟩
  have h0 := World.var?_cell gErr hv 0
  exact World.block_lt_of_cell? W ⟨3, 0, none⟩ (by simpa using h0)

theorem below_of {f : Nat} {args : Array Value} {W : World} (h : Calls Tryd.prog f args W fun e w' => e = .returned (.bool true) ∧ Keeps (fun _ => False) W w') : Calls Tryd.prog f args W fun e w' => e = .returned (.bool true) ∧ Below W.heap.size W w' :=
  h.mono fun e w' h => ⟨h.1, h.2.toBelow (Nat.le_refl _) (fun _ h => h.elim)⟩

end Go.Proofs.YtgelggdgbmldiaaDoor
