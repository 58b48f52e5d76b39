/-
  Layer 3: the document's Level. Written by an AI agent.
-/
import Derived.Lib.Bytealg
import Derived.Test.YtgelggdgbmldiaaDoorChecked
import Derived.Laws.OwnMore
import Derived.Laws.AppendOwnNone
import Derived.OwnWalk
import Derived.Lib.AppendZerosOnto
import Derived.Below
import Derived.Stop.Walk2
import Derived.WalkKit
import Derived.WalkLawsBesides
import Derived.WalkSpells
import Derived.Outline
import Derived.BigQuiet
import Derived.Deep.CutBlock
import Derived.Deep.CutRange
import Derived.Deep.DeepCutAuto
import Derived.Deep.RegionHeld3
import Derived.Deep.RegionLaw
import Derived.Deep.RegionWith
import Derived.StillTailTactics
import Derived.RegionTactic
import Derived.Laws.StructEq
import Derived.Lib.Hide
import Derived.Shelf.Abstract
import Derived.Shelf.Lay
import Derived.Ground.NamesProg
import Derived.Shelf.Strings.Prefix
import Derived.Shelf.Small.Strs
import Derived.Shelf.Strings.Count
import Derived.Shelf.Strconv.ErrVarParseInt
import Derived.WalkMore
import Derived.Scope
import Derived.Shelf.Slices.Turned
import Derived.Lib.SlicesS
import Derived.Deep.RegionHeld
import Derived.Deep.LoopGhost
import Derived.Deep.Light
import Derived.Shelf.Strconv.Itoa3
import Derived.Lib.LaidTab
import Derived.Lib.ItoaLen
import Derived.Test.YtgelggdgbmldiaaDoorMcaa
import Derived.Test.YtgelggdgbmldiaaDoorMcab
import Derived.Test.YtgelggdgbmldiaaDoorMcac
import Derived.Test.YtgelggdgbmldiaaDoorMcad
import Derived.Test.YtgelggdgbmldiaaDoorMcae
import Derived.Test.YtgelggdgbmldiaaDoorMcaf
import Derived.Test.YtgelggdgbmldiaaDoorMcag
import Derived.Test.YtgelggdgbmldiaaDoorMcah
import Derived.Test.YtgelggdgbmldiaaDoorMcai
namespace Go.Proofs.YtgelggdgbmldiaaDoor
open Go Go.RowKit Go.Shelf
set_option linter.unusedVariables false
set_option linter.unusedSimpArgs false
section
variable (k ln n : Int) (sv : ByteArray) (a : Option Addr) (len c : Nat) (w : World)
set_option maxHeartbeats 8000000 in
theorem rlev_seven : Calls Tryd.prog 19 #[.agg #[.int .i64 7, .int .i64 ln, .int .i64 n, .string sv, .slice a len c]] w fun r w' => r = .returned (.int .i64 5) ∧ Keeps (fun _ => False) w w' := by
  go_enter Tryd.func19, Tryd.ntmps19
  go_upto_region 1 with fail
  have ka := Keeps.one w (.cells #[.int .i64 7, .int .i64 ln, .int .i64 n, .string sv, .slice a len c] 33)
  have z := Loc.new (w := w) (R := fun _ => False) (fun h => h) [.int .i64 7, .int .i64 ln, .int .i64 n, .string sv, .slice a len c] 33
  have z0 := z.cells 0 _ rfl
  have z3 := z.cells 3 _ rfl
  go_wp2_with fail
  all_goals go_ret
  all_goals exact ⟨rfl, ka⟩
set_option maxHeartbeats 8000000 in
theorem rlev_eight : Calls Tryd.prog 19 #[.agg #[.int .i64 8, .int .i64 ln, .int .i64 n, .string sv, .slice a len c]] w fun r w' => r = .returned (.int .i64 5) ∧ Keeps (fun _ => False) w w' := by
  go_enter Tryd.func19, Tryd.ntmps19
  go_upto_region 1 with fail
  have ka := Keeps.one w (.cells #[.int .i64 8, .int .i64 ln, .int .i64 n, .string sv, .slice a len c] 33)
  have z := Loc.new (w := w) (R := fun _ => False) (fun h => h) [.int .i64 8, .int .i64 ln, .int .i64 n, .string sv, .slice a len c] 33
  have z0 := z.cells 0 _ rfl
  have z3 := z.cells 3 _ rfl
  go_wp2_with fail
  all_goals go_ret
  all_goals exact ⟨rfl, ka⟩
set_option maxHeartbeats 8000000 in
theorem rlev_other (h7 : ¬ k = 7) (h8 : ¬ k = 8) (h9 : ¬ k = 9) : Calls Tryd.prog 19 #[.agg #[.int .i64 k, .int .i64 ln, .int .i64 n, .string sv, .slice a len c]] w fun r w' => r = .returned (.int .i64 6) ∧ Keeps (fun _ => False) w w' := by
  have e7 : (k == 7) = false := by simpa using h7
  have e8 : (k == 8) = false := by simpa using h8
  have e9 : (k != 9) = true := by simpa using h9
  go_enter Tryd.func19, Tryd.ntmps19
  go_upto_region 1 with fail
  have ka := Keeps.one w (.cells #[.int .i64 k, .int .i64 ln, .int .i64 n, .string sv, .slice a len c] 33)
  have z := Loc.new (w := w) (R := fun _ => False) (fun h => h) [.int .i64 k, .int .i64 ln, .int .i64 n, .string sv, .slice a len c] 33
  have z0 := z.cells 0 _ rfl
  have z3 := z.cells 3 _ rfl
  go_wp2_with fail
  all_goals go_ret
  all_goals exact ⟨rfl, ka⟩
set_option maxHeartbeats 8000000 in
theorem rlev_s0 : Calls Tryd.prog 19 #[.agg #[.int .i64 9, .int .i64 ln, .int .i64 n, .string { data := #[124, 124] }, .slice a len c]] w fun r w' => r = .returned (.int .i64 0) ∧ Keeps (fun _ => False) w w' := by
  go_enter Tryd.func19, Tryd.ntmps19
  go_upto_region 1 with fail
  have ka := Keeps.one w (.cells #[.int .i64 9, .int .i64 ln, .int .i64 n, .string { data := #[124, 124] }, .slice a len c] 33)
  have z := Loc.new (w := w) (R := fun _ => False) (fun h => h) [.int .i64 9, .int .i64 ln, .int .i64 n, .string { data := #[124, 124] }, .slice a len c] 33
  have z0 := z.cells 0 _ rfl
  have z3 := z.cells 3 _ rfl
  go_wp2_with fail
  all_goals go_ret
  all_goals exact ⟨rfl, ka⟩
set_option maxHeartbeats 8000000 in
theorem rlev_s1 : Calls Tryd.prog 19 #[.agg #[.int .i64 9, .int .i64 ln, .int .i64 n, .string { data := #[38, 38] }, .slice a len c]] w fun r w' => r = .returned (.int .i64 1) ∧ Keeps (fun _ => False) w w' := by
  go_enter Tryd.func19, Tryd.ntmps19
  go_upto_region 1 with fail
  have ka := Keeps.one w (.cells #[.int .i64 9, .int .i64 ln, .int .i64 n, .string { data := #[38, 38] }, .slice a len c] 33)
  have z := Loc.new (w := w) (R := fun _ => False) (fun h => h) [.int .i64 9, .int .i64 ln, .int .i64 n, .string { data := #[38, 38] }, .slice a len c] 33
  have z0 := z.cells 0 _ rfl
  have z3 := z.cells 3 _ rfl
  go_wp2_with fail
  all_goals go_ret
  all_goals exact ⟨rfl, ka⟩
set_option maxHeartbeats 8000000 in
theorem rlev_s2 : Calls Tryd.prog 19 #[.agg #[.int .i64 9, .int .i64 ln, .int .i64 n, .string { data := #[60] }, .slice a len c]] w fun r w' => r = .returned (.int .i64 2) ∧ Keeps (fun _ => False) w w' := by
  go_enter Tryd.func19, Tryd.ntmps19
  go_upto_region 1 with fail
  have ka := Keeps.one w (.cells #[.int .i64 9, .int .i64 ln, .int .i64 n, .string { data := #[60] }, .slice a len c] 33)
  have z := Loc.new (w := w) (R := fun _ => False) (fun h => h) [.int .i64 9, .int .i64 ln, .int .i64 n, .string { data := #[60] }, .slice a len c] 33
  have z0 := z.cells 0 _ rfl
  have z3 := z.cells 3 _ rfl
  go_wp2_with fail
  all_goals go_ret
  all_goals exact ⟨rfl, ka⟩
set_option maxHeartbeats 8000000 in
theorem rlev_s3 : Calls Tryd.prog 19 #[.agg #[.int .i64 9, .int .i64 ln, .int .i64 n, .string { data := #[60, 61] }, .slice a len c]] w fun r w' => r = .returned (.int .i64 2) ∧ Keeps (fun _ => False) w w' := by
  go_enter Tryd.func19, Tryd.ntmps19
  go_upto_region 1 with fail
  have ka := Keeps.one w (.cells #[.int .i64 9, .int .i64 ln, .int .i64 n, .string { data := #[60, 61] }, .slice a len c] 33)
  have z := Loc.new (w := w) (R := fun _ => False) (fun h => h) [.int .i64 9, .int .i64 ln, .int .i64 n, .string { data := #[60, 61] }, .slice a len c] 33
  have z0 := z.cells 0 _ rfl
  have z3 := z.cells 3 _ rfl
  go_wp2_with fail
  all_goals go_ret
  all_goals exact ⟨rfl, ka⟩
set_option maxHeartbeats 8000000 in
theorem rlev_s4 : Calls Tryd.prog 19 #[.agg #[.int .i64 9, .int .i64 ln, .int .i64 n, .string { data := #[61, 61] }, .slice a len c]] w fun r w' => r = .returned (.int .i64 2) ∧ Keeps (fun _ => False) w w' := by
  go_enter Tryd.func19, Tryd.ntmps19
  go_upto_region 1 with fail
  have ka := Keeps.one w (.cells #[.int .i64 9, .int .i64 ln, .int .i64 n, .string { data := #[61, 61] }, .slice a len c] 33)
  have z := Loc.new (w := w) (R := fun _ => False) (fun h => h) [.int .i64 9, .int .i64 ln, .int .i64 n, .string { data := #[61, 61] }, .slice a len c] 33
  have z0 := z.cells 0 _ rfl
  have z3 := z.cells 3 _ rfl
  go_wp2_with fail
  all_goals go_ret
  all_goals exact ⟨rfl, ka⟩
set_option maxHeartbeats 8000000 in
theorem rlev_s5 : Calls Tryd.prog 19 #[.agg #[.int .i64 9, .int .i64 ln, .int .i64 n, .string { data := #[33, 61] }, .slice a len c]] w fun r w' => r = .returned (.int .i64 2) ∧ Keeps (fun _ => False) w w' := by
  go_enter Tryd.func19, Tryd.ntmps19
  go_upto_region 1 with fail
  have ka := Keeps.one w (.cells #[.int .i64 9, .int .i64 ln, .int .i64 n, .string { data := #[33, 61] }, .slice a len c] 33)
  have z := Loc.new (w := w) (R := fun _ => False) (fun h => h) [.int .i64 9, .int .i64 ln, .int .i64 n, .string { data := #[33, 61] }, .slice a len c] 33
  have z0 := z.cells 0 _ rfl
  have z3 := z.cells 3 _ rfl
  go_wp2_with fail
  all_goals go_ret
  all_goals exact ⟨rfl, ka⟩
set_option maxHeartbeats 8000000 in
theorem rlev_s6 : Calls Tryd.prog 19 #[.agg #[.int .i64 9, .int .i64 ln, .int .i64 n, .string { data := #[43] }, .slice a len c]] w fun r w' => r = .returned (.int .i64 3) ∧ Keeps (fun _ => False) w w' := by
  go_enter Tryd.func19, Tryd.ntmps19
  go_upto_region 1 with fail
  have ka := Keeps.one w (.cells #[.int .i64 9, .int .i64 ln, .int .i64 n, .string { data := #[43] }, .slice a len c] 33)
  have z := Loc.new (w := w) (R := fun _ => False) (fun h => h) [.int .i64 9, .int .i64 ln, .int .i64 n, .string { data := #[43] }, .slice a len c] 33
  have z0 := z.cells 0 _ rfl
  have z3 := z.cells 3 _ rfl
  go_wp2_with fail
  all_goals go_ret
  all_goals exact ⟨rfl, ka⟩
set_option maxHeartbeats 8000000 in
theorem rlev_s7 : Calls Tryd.prog 19 #[.agg #[.int .i64 9, .int .i64 ln, .int .i64 n, .string { data := #[45] }, .slice a len c]] w fun r w' => r = .returned (.int .i64 3) ∧ Keeps (fun _ => False) w w' := by
  go_enter Tryd.func19, Tryd.ntmps19
  go_upto_region 1 with fail
  have ka := Keeps.one w (.cells #[.int .i64 9, .int .i64 ln, .int .i64 n, .string { data := #[45] }, .slice a len c] 33)
  have z := Loc.new (w := w) (R := fun _ => False) (fun h => h) [.int .i64 9, .int .i64 ln, .int .i64 n, .string { data := #[45] }, .slice a len c] 33
  have z0 := z.cells 0 _ rfl
  have z3 := z.cells 3 _ rfl
  go_wp2_with fail
  all_goals go_ret
  all_goals exact ⟨rfl, ka⟩
set_option maxHeartbeats 8000000 in
theorem rlev_s8 : Calls Tryd.prog 19 #[.agg #[.int .i64 9, .int .i64 ln, .int .i64 n, .string { data := #[42] }, .slice a len c]] w fun r w' => r = .returned (.int .i64 4) ∧ Keeps (fun _ => False) w w' := by
  go_enter Tryd.func19, Tryd.ntmps19
  go_upto_region 1 with fail
  have ka := Keeps.one w (.cells #[.int .i64 9, .int .i64 ln, .int .i64 n, .string { data := #[42] }, .slice a len c] 33)
  have z := Loc.new (w := w) (R := fun _ => False) (fun h => h) [.int .i64 9, .int .i64 ln, .int .i64 n, .string { data := #[42] }, .slice a len c] 33
  have z0 := z.cells 0 _ rfl
  have z3 := z.cells 3 _ rfl
  go_wp2_with fail
  all_goals go_ret
  all_goals exact ⟨rfl, ka⟩
set_option maxHeartbeats 8000000 in
theorem rlev_s9 : Calls Tryd.prog 19 #[.agg #[.int .i64 9, .int .i64 ln, .int .i64 n, .string { data := #[47] }, .slice a len c]] w fun r w' => r = .returned (.int .i64 4) ∧ Keeps (fun _ => False) w w' := by
  go_enter Tryd.func19, Tryd.ntmps19
  go_upto_region 1 with fail
  have ka := Keeps.one w (.cells #[.int .i64 9, .int .i64 ln, .int .i64 n, .string { data := #[47] }, .slice a len c] 33)
  have z := Loc.new (w := w) (R := fun _ => False) (fun h => h) [.int .i64 9, .int .i64 ln, .int .i64 n, .string { data := #[47] }, .slice a len c] 33
  have z0 := z.cells 0 _ rfl
  have z3 := z.cells 3 _ rfl
  go_wp2_with fail
  all_goals go_ret
  all_goals exact ⟨rfl, ka⟩
set_option maxHeartbeats 8000000 in
theorem rlev_s10 : Calls Tryd.prog 19 #[.agg #[.int .i64 9, .int .i64 ln, .int .i64 n, .string { data := #[37] }, .slice a len c]] w fun r w' => r = .returned (.int .i64 4) ∧ Keeps (fun _ => False) w w' := by
  go_enter Tryd.func19, Tryd.ntmps19
  go_upto_region 1 with fail
  have ka := Keeps.one w (.cells #[.int .i64 9, .int .i64 ln, .int .i64 n, .string { data := #[37] }, .slice a len c] 33)
  have z := Loc.new (w := w) (R := fun _ => False) (fun h => h) [.int .i64 9, .int .i64 ln, .int .i64 n, .string { data := #[37] }, .slice a len c] 33
  have z0 := z.cells 0 _ rfl
  have z3 := z.cells 3 _ rfl
  go_wp2_with fail
  all_goals go_ret
  all_goals exact ⟨rfl, ka⟩
end
theorem rlevel_any (k ln n : Int) (s : List UInt8) (a : Option Addr) (len c : Nat) (w : World) (h9 : k = 9 → s ∈ signs11) : Calls Tryd.prog 19 #[.agg #[.int .i64 k, .int .i64 ln, .int .i64 n, .string (ofL s), .slice a len c]] w fun r w' => r = .returned (.int .i64 (levK k s : Nat)) ∧ Keeps (fun _ => False) w w' := by
  by_cases e7 : k = 7
  · subst e7; exact rlev_seven ln n (ofL s) a len c w
  by_cases e8 : k = 8
  · subst e8; exact rlev_eight ln n (ofL s) a len c w
  by_cases e9 : k = 9
  · subst e9
    have h := h9 rfl
    simp only [signs11, List.mem_cons, List.not_mem_nil, or_false] at h
    rcases h with rfl | rfl | rfl | rfl | rfl | rfl | rfl | rfl | rfl | rfl | rfl
    · exact rlev_s0 ln n a len c w
    · exact rlev_s1 ln n a len c w
    · exact rlev_s2 ln n a len c w
    · exact rlev_s3 ln n a len c w
    · exact rlev_s4 ln n a len c w
    · exact rlev_s5 ln n a len c w
    · exact rlev_s6 ln n a len c w
    · exact rlev_s7 ln n a len c w
    · exact rlev_s8 ln n a len c w
    · exact rlev_s9 ln n a len c w
    · exact rlev_s10 ln n a len c w
  · have e : levK k s = 6 := by unfold levK; rw [if_neg (by omega), if_neg e9]
    rw [e]
    exact rlev_other k ln n (ofL s) a len c w e7 e8 e9
end Go.Proofs.YtgelggdgbmldiaaDoor
