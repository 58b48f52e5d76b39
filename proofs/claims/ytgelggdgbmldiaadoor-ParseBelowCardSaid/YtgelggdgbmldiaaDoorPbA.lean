/-
  Layer 2: All: an error of the lexer. Written by an AI agent.
-/
import Derived.Test.YtgelggdgbmldiaaDoorPaY
namespace Go.Proofs.YtgelggdgbmldiaaDoor
open Go Go.RowKit Go.Shelf
set_option linter.unusedVariables false
set_option linter.unusedSimpArgs false

theorem results_cell_tmp3 {fn : Func} {p u v : Tmp} {ty : TypeId} (h : fn.results = #[.cell p ty, .tmp u, .tmp v]) (tmps : Array Value) (P : Program) (w : World) :
    (results fn tmps).run P w =
      ((asAddr (tmps.getD p undef)).run P w).andThen fun a w₁ => ((loadVar ty a).run P w₁).andThen fun x w₂ => .ok (.tuple #[x, tmps.getD u undef, tmps.getD v undef]) w₂ := by
  simp only [results, h]
  simp [Sem.run_bind, Result.andThen]

set_option maxRecDepth 100000 in
set_option maxHeartbeats 16000000 in
theorem pall_err (s : ByteArray) (w : World) (p er : Nat) (her : er ≠ 0) (LC : ∀ w1, Keeps (fun _ => False) w w1 → Calls Tryd.prog 24 #[.string s] w1 fun e w' => e = .returned (.tuple #[.slice none 0 0, .int .i64 (p : Int), .int .i64 (er : Int)]) ∧ Keeps (fun _ => False) w1 w') :
    Calls Tryd.prog 13 #[.string s] w fun e w' => e = .returned (.tuple #[.agg #[.slice none 0 0, .slice none 0 0], .int .i64 (p : Int), .int .i64 (er : Int)]) ∧ Keeps (fun _ => False) w w' := by
  have HLC := Lib.hid LC
  have hd : ((er : Int) != 0) = true := by simp; omega
  obtain ⟨ei, hei⟩ : ∃ ei : Int, ei = er := ⟨_, rfl⟩
  rw [← hei] at hd HLC ⊢
  obtain ⟨pi, hpi⟩ : ∃ pi : Int, pi = p := ⟨_, rfl⟩
  rw [← hpi] at HLC ⊢
  clear LC hei hpi her
  go_enter Tryd.func13, Tryd.ntmps13
  go_upto_region 1 with fail
  have ka := Keeps.one w (.cells #[.slice none 0 0, .slice none 0 0] 27)
  obtain ⟨C, hC⟩ : ∃ C, C = w.heap.size := ⟨_, rfl⟩
  obtain ⟨w1, hw⟩ : ∃ w1, w1 = w.alloc (.cells #[.slice none 0 0, .slice none 0 0] 27) := ⟨_, rfl⟩
  have z : Loc w1 (fun _ => False) C [.slice none 0 0, .slice none 0 0] := by rw [hw, hC]; exact Loc.new (fun h => h) [.slice none 0 0, .slice none 0 0] 27
  rw [← hC]
  rw [← hw] at ka ⊢
  have Z := Lib.hid z
  have KA := Lib.hid ka
  have HC := Lib.hid hC
  have CC := Lib.hid (HLC.out w1 ka)
  clear z ka hC hw HLC
  go_wp2_with fail
  refine CC.out.mono ?_
  rintro e w2 ⟨rfl, k2⟩
  have Z2 := Z.out.keeps k2
  have z0 := Z2.cells 0 _ rfl
  have z1 := Z2.cells 1 _ rfl
  have f0 := Z2.fz 0
  have f1 := Z2.fz 1
  have KK : Hid (∀ v0 v1 : Value, Keeps (fun _ => False) w ((w2.setCell ⟨C, 0, none⟩ v0).setCell ⟨C, 1, none⟩ v1)) := Lib.hid fun v0 v1 => by
    have k := (KA.out.trans k2 (fun _ _ h => h)).mono (T := fun b => w.heap.size ≤ b) (fun _ _ h => h.elim)
    have hc : w.heap.size ≤ C := by rw [HC.out]; exact Nat.le_refl _
    exact kback ((k.setCell (p := ⟨C, 0, none⟩) (fun _ => hc) v0).setCell (p := ⟨C, 1, none⟩) (fun _ => hc) v1) rfl
  clear Z2 CC k2 Z
  go_wp2_with fail
  (try simp only [Exit.inBlock, Exit.then])
  refine bodyPost_ret (v := .tuple #[.agg #[.slice none 0 0, .slice none 0 0], .int .i64 pi, .int .i64 ei]) ?_ rfl ?_
  · rw [results_cell_tmp3 rfl]
    go_simp
  exact ⟨rfl, KK.out _ _⟩

end Go.Proofs.YtgelggdgbmldiaaDoor
