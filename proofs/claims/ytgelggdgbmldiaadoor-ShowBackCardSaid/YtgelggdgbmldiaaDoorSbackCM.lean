/-
  ShowBack returns true for every input, in whatever memory; its arguments read as they did. Conditions: the package-level variables that the row lists read as the program's text lays them (tied by the card). Written by an AI agent.
-/
import Derived.Test.YtgelggdgbmldiaaDoorMkaa
import Derived.Test.YtgelggdgbmldiaaDoorMkab
import Derived.Test.YtgelggdgbmldiaaDoorMkac
import Derived.Test.YtgelggdgbmldiaaDoorMkad
import Derived.Test.YtgelggdgbmldiaaDoorMkae
import Derived.Test.YtgelggdgbmldiaaDoorMkaf
import Derived.Test.YtgelggdgbmldiaaDoorMkag
import Derived.Test.YtgelggdgbmldiaaDoorMkah
import Derived.Test.YtgelggdgbmldiaaDoorMkai
import Derived.Test.YtgelggdgbmldiaaDoorMkaj
import Derived.Test.YtgelggdgbmldiaaDoorMkak
import Derived.Test.YtgelggdgbmldiaaDoorMkal
import Derived.Test.YtgelggdgbmldiaaDoorMkam
import Derived.Test.YtgelggdgbmldiaaDoorMkan
import Derived.Test.YtgelggdgbmldiaaDoorMkao
import Derived.Test.YtgelggdgbmldiaaDoorMkap
import Derived.Test.YtgelggdgbmldiaaDoorMkaq
import Derived.Test.YtgelggdgbmldiaaDoorMkar
import Derived.Test.YtgelggdgbmldiaaDoorMkas
import Derived.Test.YtgelggdgbmldiaaDoorMkat
import Derived.Test.YtgelggdgbmldiaaDoorMkau
import Derived.Test.YtgelggdgbmldiaaDoorMkav
import Derived.Test.YtgelggdgbmldiaaDoorMkaw
import Derived.Test.YtgelggdgbmldiaaDoorMkax
import Derived.Test.YtgelggdgbmldiaaDoorMkay
import Derived.Test.YtgelggdgbmldiaaDoorMkaz
import Derived.Test.YtgelggdgbmldiaaDoorMkba
import Derived.Test.YtgelggdgbmldiaaDoorMkbb
import Derived.Test.YtgelggdgbmldiaaDoorMkbc
import Derived.Test.YtgelggdgbmldiaaDoorMkbd
import Derived.Test.YtgelggdgbmldiaaDoorMkbe
import Derived.Test.YtgelggdgbmldiaaDoorMkbf
import Derived.Test.YtgelggdgbmldiaaDoorMkbg
import Derived.Test.YtgelggdgbmldiaaDoorMkbh
import Derived.Test.YtgelggdgbmldiaaDoorMkbi
import Derived.Test.YtgelggdgbmldiaaDoorMkbj
import Derived.Test.YtgelggdgbmldiaaDoorMkbk
import Derived.Test.YtgelggdgbmldiaaDoorMkbl
import Derived.Test.YtgelggdgbmldiaaDoorMkbm
import Derived.Test.YtgelggdgbmldiaaDoorMkbn
import Derived.Test.YtgelggdgbmldiaaDoorMkbo
import Derived.Lib.Bytealg
import Derived.Lib.ItoaNum
import Derived.Lib.ItoaMem
import Derived.Test.YtgelggdgbmldiaaDoorChecked
import Derived.Laws.OwnMore
import Derived.Laws.AppendOwnNone
import Derived.OwnWalk
import Derived.Lib.AppendZerosOnto
import Derived.Stop.Walk2
import Derived.WalkLawsBesides
import Derived.WalkSpells
import Derived.Outline
import Derived.BigQuiet
import Derived.Deep.CutBlock
import Derived.Deep.CutRange
import Derived.Deep.DeepCutAuto
import Derived.Deep.RegionHeld3
import Derived.Deep.RegionLaw
import Derived.Deep.RegionWith
import Derived.StillTailTactics
import Derived.RegionTactic
import Derived.Laws.StructEq
import Derived.Lib.Hide
import Derived.Shelf.Abstract
import Derived.Shelf.Lay
import Derived.Ground.NamesProg
import Derived.Shelf.Strings.Prefix
import Derived.Shelf.Small.Strs
import Derived.Shelf.Strings.Count
import Derived.Shelf.Strconv.ErrVarParseInt
import Derived.WalkMore
import Derived.Scope
import Derived.Shelf.Slices.Turned
import Derived.Lib.SlicesS
import Derived.Deep.RegionHeld
import Derived.Deep.LoopGhost
import Derived.Deep.Light
import Derived.Shelf.Strconv.Itoa3
import Derived.Lib.ItoaLen
import Derived.Maps.Own
import Derived.Maps.OwnOps
import Derived.StringKeys
import Derived.Shelf.Strings.OnBuilder
import Derived.Shelf.Strings.BuilderCap
import Derived.Shelf.Strings.BuilderK
import Derived.Shelf.Strconv.AtoiAll
import Derived.Deep.OwnRows
import Derived.Test.YtgelggdgbmldiaaDoorRows
import Derived.Test.YtgelggdgbmldiaaDoorCards
import Derived.Test.YtgelggdgbmldiaaDoorTie
import Derived.Stop.LaidErr
import Derived.ChangeMaps5
import Derived.WalkKit
import Derived.ProofKit
import Derived.OpenShut
import Derived.LaidMore
import Derived.ChangeOld
import Derived.Below
import Derived.Lib.LaidTab
import Derived.Stop.Joined
import Derived.SevenTiedAt
namespace Go.Proofs.YtgelggdgbmldiaaDoor.showBack
open Go Go.ChangeShapes Go.WideShapes Go.ChangeAt Go.WideMaps Go.WideElems Go.RowKit Go.ChangeMaps
set_option linter.unusedVariables false

theorem own : ownKnob Tryd.prog.godebug = none := by kernel_rfl
theorem laidOut : laidOutB Tryd.prog = true := by kernel_rfl

/-- The heap that the program's own door leaves meets the condition. -/
theorem door_met (os : Os) (args : Array Value) : laidMetH Tryd.prog Rows.showBackRow.laid ((World.doorLaid Tryd.prog 400 os).forCall (fun _ _ => 0) ⟨#[], args, []⟩).memory :=
  laidMetH_of_parts3 (fuel := 8) (laidMet_of_run' 8 (by kernel_rfl) (by kernel_rfl)) (by kernel_rfl) (by kernel_rfl)

set_option maxRecDepth 100000 in
theorem lifted (os : Os) (started : os.Started) (H : Type) (enc : TypeId × Value → H) :
    ReturnsInHanded {} Tryd.checked os 8 .any (fun w args => (Rows.showBackSpec.pre enc Tryd.prog Tryd.f8 [] false w args ∧ laidMetH Tryd.prog Rows.showBackRow.laid w) ∧ sizedMet enc Tryd.prog Tryd.f8 (OpenSpec.ofChange Rows.showBackSpec) false w args)
      (Rows.showBackSpec.post enc Tryd.prog Tryd.f8 false true false false) := by
  refine returnsInHanded_of_change_and (C := Tryd.checked) (X := fun w _ => laidMetH Tryd.prog Rows.showBackRow.laid w) (fun _ _ _ hh h => h.of_heap hh) own started (by kernel_rfl) Tryd.func8
    (ChangeSpec.witness_shaped (enc := enc) (C := Tryd.checked) (os := os) (X := fun w _ => laidMetH Tryd.prog Rows.showBackRow.laid w) false (World.doorLaid Tryd.prog 400 os) #[.string ⟨#[]⟩] 8 rfl (World.shaped_of_RefB (by kernel_rfl) (by kernel_rfl)) (by kernel_rfl) (by kernel_rfl) (by kernel_rfl) (door_met os _)) ?_
  intro W base args ds gs before hval0 hW _ _ hL _
  have hval : ∀ (j : Nat) t v, Tryd.f8.params[j]? = some t → args[j]? = some v → Value.okWide Tryd.prog W .any base t v := hval0
  have hW' := hW
  obtain ⟨p, q, hA0, hV, rfl, hfz, hnd⟩ := hW
  have hA : DataW.TrodAll enc Tryd.prog W 0 (fun _ => true) true Tryd.f8.params.toList args.toList ds p := hA0
  rw [Tryd.params8] at hA hval
  obtain ⟨v0, vs0, d0, ds0, p0, q0, hargs, rfl, rfl, h0, r0⟩ := trodAll_cons hA
  obtain ⟨rfl, rfl, rfl⟩ := trodAll_nil r0
  obtain rfl : args = #[v0] := by cases args; simp_all
  obtain ⟨rfl, rfl⟩ := trodVars_none hV
  obtain ⟨s0, rfl, rfl, rfl, w0⟩ := open_string Tryd.underlying9 (hval 0 9 v0 rfl rfl) h0
  clear hA0 hval0

  refine (below_of (showback_walk s0 W (shW_of_laid hL) (Lib.hid (shown3_any W (shW_of_laid hL))))).mono fun e W' ⟨he, bel⟩ => ?_
  subst he
  exact ⟨_, rfl, _, _, _, [], [], [], hW', trodAll_mk1 (shut_bool Tryd.underlying4 _), (trodAll_cons_mk (shut_string Tryd.underlying9 w0) trodAll_mk0), rfl, bel.frame _, fun h => by cases h⟩

theorem over : Rows.showBackRow.holds Tryd.pinned (OpenSpec.ofChange Rows.showBackSpec) :=
  OpenClaim.holds_of_wide 8 Tryd.f8 rfl rfl rfl rfl rfl rfl rfl ⟨rfl, rfl, rfl, rfl, rfl⟩ rfl rfl rfl rfl rfl (by kernel_rfl) Tryd.func8 (by kernel_rfl)
    (of_decide_eq_true (by kernel_rfl)) (by unfold Func.isWrapper; rw [if_neg (of_decide_eq_false (by kernel_rfl))]; exact ⟨rfl, rfl⟩)
    (fun os started H enc _ => lifted os started H enc)

theorem card_holds : Rows.ShowBackCardSaid :=
  Claim7.holds_tied_plain_at .later [] [.data, .data, .data, .sentinel, .sentinel] true (true, "c49544ca69df7a0cf6e20c0d436b57ccd68cea98677ec627c31d73494204cec4") true
    over (fun _ h => by cases h) (by kernel_rfl) (fun _ h => by cases h) showBack_row_tie rfl ⟨rfl, rfl⟩ (by kernel_rfl) rfl
    (fun f fn hf hfn => by
      obtain rfl : f = 8 := Option.some.inj ((show Tryd.prog.funcNamed "furcate/furcatelaw03.ShowBack" = some 8 by kernel_rfl).symm.trans hf) |>.symm
      obtain rfl : fn = Tryd.f8 := (Option.some.inj (Tryd.func8.symm.trans hfn)).symm
      exact ⟨by kernel_rfl, fun j t ht => by
        rw [Tryd.params8] at ht
        have hm : t ∈ [9] := by simpa using Array.mem_of_getElem? ht
        have hall : ([9].all fun u => !Tryd.prog.wantsStandIn u) = true := by kernel_rfl
        exact (show Tryd.prog.wantsStandIn t = false by simpa using List.all_eq_true.1 hall t hm)⟩)
    (by kernel_rfl)
#print axioms card_holds
end Go.Proofs.YtgelggdgbmldiaaDoor.showBack
