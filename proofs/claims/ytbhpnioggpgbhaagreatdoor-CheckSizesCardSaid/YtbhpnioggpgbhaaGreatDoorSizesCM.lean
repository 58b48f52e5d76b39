/-
  CheckSizes returns true for every input, in whatever memory; its arguments read as they did. Conditions: the package-level variables that the row lists read as the program's text lays them (tied by the card). Written by an AI agent.
-/
import Derived.Test.YtbhpnioggpgbhaaGreatDoorMcaa
import Derived.Test.YtbhpnioggpgbhaaGreatDoorMcab
import Derived.Test.YtbhpnioggpgbhaaGreatDoorMcac
import Derived.Test.YtbhpnioggpgbhaaGreatDoorMcad
import Derived.Test.YtbhpnioggpgbhaaGreatDoorMcae
import Derived.Test.YtbhpnioggpgbhaaGreatDoorMcaf
import Derived.Test.YtbhpnioggpgbhaaGreatDoorMcag
import Derived.Test.YtbhpnioggpgbhaaGreatDoorMcah
import Derived.Test.YtbhpnioggpgbhaaGreatDoorMcai
import Derived.Test.YtbhpnioggpgbhaaGreatDoorMcaj
import Derived.Test.YtbhpnioggpgbhaaGreatDoorMcak
import Derived.Test.YtbhpnioggpgbhaaGreatDoorMcal
import Derived.Test.YtbhpnioggpgbhaaGreatDoorMcam
import Derived.Test.YtbhpnioggpgbhaaGreatDoorMcan
import Derived.Test.YtbhpnioggpgbhaaGreatDoorMcao
import Derived.Test.YtbhpnioggpgbhaaGreatDoorMcap
import Derived.Test.YtbhpnioggpgbhaaGreatDoorMcaq
import Derived.Test.YtbhpnioggpgbhaaGreatDoorMcar
import Derived.Test.YtbhpnioggpgbhaaGreatDoorMcas
import Derived.Test.YtbhpnioggpgbhaaGreatDoorMcat
import Derived.Test.YtbhpnioggpgbhaaGreatDoorMcau
import Derived.Test.YtbhpnioggpgbhaaGreatDoorMcav
import Derived.Test.YtbhpnioggpgbhaaGreatDoorMcaw
import Derived.Test.YtbhpnioggpgbhaaGreatDoorMcax
import Derived.Test.YtbhpnioggpgbhaaGreatDoorMcay
import Derived.Test.YtbhpnioggpgbhaaGreatDoorMcaz
import Derived.Test.YtbhpnioggpgbhaaGreatDoorMcba
import Derived.Test.YtbhpnioggpgbhaaGreatDoorMcbb
import Derived.Test.YtbhpnioggpgbhaaGreatDoorMcbc
import Derived.Test.YtbhpnioggpgbhaaGreatDoorMcbd
import Derived.Test.YtbhpnioggpgbhaaGreatDoorMcbe
import Derived.Test.YtbhpnioggpgbhaaGreatDoorMcbf
import Derived.Test.YtbhpnioggpgbhaaGreatDoorMcbg
import Derived.Test.YtbhpnioggpgbhaaGreatDoorMcbh
import Derived.Test.YtbhpnioggpgbhaaGreatDoorMcbi
import Derived.Test.YtbhpnioggpgbhaaGreatDoorMcbj
import Derived.Test.YtbhpnioggpgbhaaGreatDoorMcbk
import Derived.Test.YtbhpnioggpgbhaaGreatDoorMcbl
import Derived.Test.YtbhpnioggpgbhaaGreatDoorMcbm
import Derived.Test.YtbhpnioggpgbhaaGreatDoorMcbn
import Derived.Test.YtbhpnioggpgbhaaGreatDoorMcbo
import Derived.Lib.Bytealg
import Derived.Test.YtbhpnioggpgbhaaGreatDoorChecked
import Derived.Laws.OwnMore
import Derived.Laws.AppendOwnNone
import Derived.OwnWalk
import Derived.Lib.AppendZerosOnto
import Derived.Stop.Walk2
import Derived.WalkLawsBesides
import Derived.WalkSpells
import Derived.Outline
import Derived.BigQuiet
import Derived.Deep.CutBlock
import Derived.Deep.CutRange
import Derived.Deep.DeepCutAuto
import Derived.Deep.RegionHeld3
import Derived.Deep.RegionLaw
import Derived.Deep.RegionWith
import Derived.StillTailTactics
import Derived.RegionTactic
import Derived.Laws.StructEq
import Derived.Lib.Hide
import Derived.Shelf.Abstract
import Derived.Shelf.Lay
import Derived.Ground.NamesProg
import Derived.Shelf.Strings.Prefix
import Derived.Shelf.Small.Strs
import Derived.Shelf.Strings.Count
import Derived.Shelf.Strconv.ErrVarParseInt
import Derived.WalkMore
import Derived.Scope
import Derived.Shelf.Slices.Turned
import Derived.Lib.SlicesS
import Derived.Deep.RegionHeld
import Derived.Deep.LoopGhost
import Derived.Deep.Light
import Derived.Laws.ResultCell
import Derived.BigRegion
import Derived.Deep.OwnRows
import Derived.Laws.EntriesVeiled
import Derived.Test.YtbhpnioggpgbhaaGreatDoorRows
import Derived.Test.YtbhpnioggpgbhaaGreatDoorCards
import Derived.Test.YtbhpnioggpgbhaaGreatDoorTie
import Derived.Stop.LaidErr
import Derived.ChangeMaps5
import Derived.WalkKit
import Derived.ProofKit
import Derived.OpenShut
import Derived.LaidMore
import Derived.ChangeOld
import Derived.Below
import Derived.Lib.LaidTab
import Derived.Stop.Joined
import Derived.SevenTiedAt
namespace Go.Proofs.YtbhpnioggpgbhaaGreatDoor.checkSizes
open Go Go.ChangeShapes Go.WideShapes Go.ChangeAt Go.WideMaps Go.WideElems Go.RowKit Go.ChangeMaps
set_option linter.unusedVariables false

theorem own : ownKnob Tryz.prog.godebug = none := by kernel_rfl
theorem laidOut : laidOutB Tryz.prog = true := by kernel_rfl

/-- The heap that the program's own door leaves meets the condition. -/
theorem door_met (os : Os) (args : Array Value) : laidMetH Tryz.prog Rows.checkSizesRow.laid ((World.doorLaid Tryz.prog 400 os).forCall (fun _ _ => 0) ⟨#[], args, []⟩).memory :=
  laidMetH_of_parts3 (fuel := 8) (laidMet_of_run' 8 (by kernel_rfl) (by kernel_rfl)) (by kernel_rfl) (by kernel_rfl)

set_option maxRecDepth 100000 in
theorem lifted (os : Os) (started : os.Started) (H : Type) (enc : TypeId × Value → H) :
    ReturnsInHanded {} Tryz.checked os 7 .any (fun w args => (Rows.checkSizesSpec.pre enc Tryz.prog Tryz.f7 [] false w args ∧ laidMetH Tryz.prog Rows.checkSizesRow.laid w) ∧ sizedMet enc Tryz.prog Tryz.f7 (OpenSpec.ofChange Rows.checkSizesSpec) false w args)
      (Rows.checkSizesSpec.post enc Tryz.prog Tryz.f7 false true false false) := by
  refine returnsInHanded_of_change_and (C := Tryz.checked) (X := fun w _ => laidMetH Tryz.prog Rows.checkSizesRow.laid w) (fun _ _ _ hh h => h.of_heap hh) own started (by kernel_rfl) Tryz.func7
    (ChangeSpec.witness_shaped (enc := enc) (C := Tryz.checked) (os := os) (X := fun w _ => laidMetH Tryz.prog Rows.checkSizesRow.laid w) false (World.doorLaid Tryz.prog 400 os) #[.string ⟨#[]⟩] 8 rfl (World.shaped_of_RefB (by kernel_rfl) (by kernel_rfl)) (by kernel_rfl) (by kernel_rfl) (by kernel_rfl) (door_met os _)) ?_
  intro W base args ds gs before hval0 hW _ _ hL _
  have hval : ∀ (j : Nat) t v, Tryz.f7.params[j]? = some t → args[j]? = some v → Value.okWide Tryz.prog W .any base t v := hval0
  have hW' := hW
  obtain ⟨p, q, hA0, hV, rfl, hfz, hnd⟩ := hW
  have hA : DataW.TrodAll enc Tryz.prog W 0 (fun _ => true) true Tryz.f7.params.toList args.toList ds p := hA0
  rw [Tryz.params7] at hA hval
  obtain ⟨v0, vs0, d0, ds0, p0, q0, hargs, rfl, rfl, h0, r0⟩ := trodAll_cons hA
  obtain ⟨rfl, rfl, rfl⟩ := trodAll_nil r0
  obtain rfl : args = #[v0] := by cases args; simp_all
  obtain ⟨rfl, rfl⟩ := trodVars_none hV
  obtain ⟨s0, rfl, rfl, rfl, w0⟩ := open_string Tryz.underlying9 (hval 0 9 v0 rfl rfl) h0
  clear hA0 hval0

  refine (below_of (sizes_walk s0 W (errW_of_laid hL))).mono fun e W' ⟨he, bel⟩ => ?_
  subst he
  exact ⟨_, rfl, _, _, _, [], [], [], hW', trodAll_mk1 (shut_bool Tryz.underlying4 _), (trodAll_cons_mk (shut_string Tryz.underlying9 w0) trodAll_mk0), rfl, bel.frame _, fun h => by cases h⟩

theorem over : Rows.checkSizesRow.holds Tryz.pinned (OpenSpec.ofChange Rows.checkSizesSpec) :=
  OpenClaim.holds_of_wide 7 Tryz.f7 rfl rfl rfl rfl rfl rfl rfl ⟨rfl, rfl, rfl, rfl, rfl⟩ rfl rfl rfl rfl rfl (by kernel_rfl) Tryz.func7 (by kernel_rfl)
    (of_decide_eq_true (by kernel_rfl)) (by unfold Func.isWrapper; rw [if_neg (of_decide_eq_false (by kernel_rfl))]; exact ⟨rfl, rfl⟩)
    (fun os started H enc _ => lifted os started H enc)

theorem card_holds : Rows.CheckSizesCardSaid :=
  Claim7.holds_tied_plain_at .later [] [.data, .data, .data, .sentinel, .sentinel] true (true, "5910e4393bca10e5d50740cad9a27925a9288b36e3cfd04f5313d031b0f51bc3") true
    over (fun _ h => by cases h) (by kernel_rfl) (fun _ h => by cases h) checkSizes_row_tie rfl ⟨rfl, rfl⟩ (by kernel_rfl) rfl
    (fun f fn hf hfn => by
      obtain rfl : f = 7 := Option.some.inj ((show Tryz.prog.funcNamed "furcate/furcatelaw04.CheckSizes" = some 7 by kernel_rfl).symm.trans hf) |>.symm
      obtain rfl : fn = Tryz.f7 := (Option.some.inj (Tryz.func7.symm.trans hfn)).symm
      exact ⟨by kernel_rfl, fun j t ht => by
        rw [Tryz.params7] at ht
        have hm : t ∈ [9] := by simpa using Array.mem_of_getElem? ht
        have hall : ([9].all fun u => !Tryz.prog.wantsStandIn u) = true := by kernel_rfl
        exact (show Tryz.prog.wantsStandIn t = false by simpa using List.all_eq_true.1 hall t hm)⟩)
    (by kernel_rfl)
#print axioms card_holds
end Go.Proofs.YtbhpnioggpgbhaaGreatDoor.checkSizes
