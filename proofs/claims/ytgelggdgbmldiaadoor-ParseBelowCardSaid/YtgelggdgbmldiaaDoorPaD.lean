/-
  Layer 2: the cursor's line, and what it looks for. Written by an AI agent.
-/
import Derived.Test.YtgelggdgbmldiaaDoorPaC
namespace Go.Proofs.YtgelggdgbmldiaaDoor
open Go Go.RowKit Go.Shelf
set_option linter.unusedVariables false
set_option linter.unusedSimpArgs false
set_option maxRecDepth 100000 in
set_option maxHeartbeats 8000000 in
theorem pline_any {P : Nat} {src : ByteArray} {T : List Tok} {R : Nat → Prop} {s : PS} {w : World} (hsz : src.size ≤ 1000) (h : Par w P src T R s) :
    Calls Tryd.prog 48 #[.pointer (some ⟨P, 0, none⟩)] w fun e w' => e = .returned (.int .i64 (lineS src.data.toList T s)) ∧ Keeps (fun _ => False) w w' := by
  have H := Lib.hid h
  obtain ⟨A, cT, v, L, h⟩ := h
  have c0 := h.c0
  have hP := h.lo
  clear h
  have NC : Hid (∀ w1, Keeps (fun _ => False) w w1 → Calls Tryd.prog 25 #[.pointer (some ⟨P, 0, none⟩)] w1 fun e w' => e = .returned (.agg #[.int .i64 ((tokA T s).k : Int), .string (ofL (tokA T s).x), .int .i64 ((tokA T s).p : Int)]) ∧ Keeps (fun _ => False) w1 w') := Lib.hid fun w1 k => now_any (H.out.keep k)
  have LC : Hid (∀ w1, Calls Tryd.prog 78 #[.string src, .int .i64 ((tokA T s).p : Int)] w1 fun e w' => e = .returned (.int .i64 (lineS src.data.toList T s)) ∧ w' = w1) := Lib.hid fun w1 => line_any src hsz _ w1
  generalize lineS src.data.toList T s = ln at LC ⊢
  generalize tokA T s = tk at NC LC
  have F2 : ∀ w, Sem.run Tryd.prog (Instr.field 54 (.agg #[.int .i64 (tk.k : Int), .string (ofL tk.x), .int .i64 (tk.p : Int)]) 2) w = .ok (.int .i64 (tk.p : Int)) w := fun w => tok_field2 _ _ _ w
  go_enter Tryd.func48, Tryd.ntmps48
  go_wp2_with fail
  refine wp_region_held_drew (S := fun w' => w'.cell? ⟨P, 0, none⟩ = some (.string src) ∧ Keeps (fun _ => False) w w') (by kernel_rfl) (⟨c0, (Keeps.refl _ _).drew⟩) (fun hHeld => ?_)
  clear c0
  refine wpAnyH_take (i := 0) (v := ?_) rfl (by kernel_rfl) (by kernel_rfl) (by kernel_rfl) (fun _ _ _ h => h) (Or.inl ⟨by rfl, ?_⟩) (by assumption) ?_
  rotate_left
  · (intro w' hSw; (try dsimp only at hSw); obtain ⟨q0, sk⟩ := hSw; go_simp; (try (with_reducible rfl)))
  simp only [Act.put, List.getElem_toArray, List.getElem_cons_succ, List.getElem_cons_zero, List.setIfInBounds_toArray, List.set_cons_succ, List.set_cons_zero]
  refine wpAnyH_take (i := 1) (v := ?_) rfl (by kernel_rfl) (by kernel_rfl) (by kernel_rfl) (fun _ _ _ h => h) (Or.inl ⟨by rfl, ?_⟩) (by assumption) ?_
  rotate_left
  · (intro w' hSw; (try dsimp only at hSw); obtain ⟨q0, sk⟩ := hSw; go_simp; (try (with_reducible rfl)))
  simp only [Act.put, List.getElem_toArray, List.getElem_cons_succ, List.getElem_cons_zero, List.setIfInBounds_toArray, List.set_cons_succ, List.set_cons_zero]
  refine wpAnyH_take (i := 2) (v := ?_) rfl (by kernel_rfl) (by kernel_rfl) (by kernel_rfl) (fun _ _ _ h => h) (Or.inl ⟨by rfl, ?_⟩) (by assumption) ?_
  rotate_left
  · (intro w' hSw; (try dsimp only at hSw); obtain ⟨q0, sk⟩ := hSw; go_simp; (try (with_reducible rfl)))
  simp only [Act.put, List.getElem_toArray, List.getElem_cons_succ, List.getElem_cons_zero, List.setIfInBounds_toArray, List.set_cons_succ, List.set_cons_zero]
  refine wpAnyH_take (i := 3) (v := ?_) rfl (by kernel_rfl) (by kernel_rfl) (by kernel_rfl) (fun _ _ _ h => h) (Or.inl ⟨by rfl, ?_⟩) (by assumption) ?_
  rotate_left
  · (intro w' hSw; (try dsimp only at hSw); obtain ⟨q0, sk⟩ := hSw; go_simp; (try (with_reducible rfl)))
  simp only [Act.put, List.getElem_toArray, List.getElem_cons_succ, List.getElem_cons_zero, List.setIfInBounds_toArray, List.set_cons_succ, List.set_cons_zero]
  refine wpAnyH_take (i := 4) (v := ?_) rfl (by kernel_rfl) (by kernel_rfl) (by kernel_rfl) (fun _ _ _ h => h) (Or.inl ⟨by rfl, ?_⟩) (by assumption) ?_
  rotate_left
  · (intro w' hSw; (try dsimp only at hSw); obtain ⟨q0, sk⟩ := hSw; go_simp; (try (with_reducible rfl)))
  simp only [Act.put, List.getElem_toArray, List.getElem_cons_succ, List.getElem_cons_zero, List.setIfInBounds_toArray, List.set_cons_succ, List.set_cons_zero]
  refine wpAnyH_ready (rs := [5]) (by kernel_rfl) (by simp) ?_
  refine AllReadyH.cons rfl (fun K hK => ?_) AllReadyH.nil
  go_simp
  (go_at_call 25; refine (NC.out _ hHeld.2).mono ?_; rintro e w3 ⟨rfl, k3⟩; (try go_simp))
  refine hK.out _ _ ⟨(k3.cell (cell_ltk hHeld.1) (fun h => h)).trans hHeld.1, hHeld.2.trans k3 (fun _ _ h => h)⟩ (fun hHeld => ?_)
  clear hK K k3
  refine wpAnyH_take (i := 6) (v := ?_) rfl (by kernel_rfl) (by kernel_rfl) (by kernel_rfl) (fun _ _ _ h => h) (Or.inl ⟨by rfl, ?_⟩) (by assumption) ?_
  rotate_left
  · (intro w' hSw; (try dsimp only at hSw); obtain ⟨q0, sk⟩ := hSw; go_simp; (try (with_reducible rfl)))
  simp only [Act.put, List.getElem_toArray, List.getElem_cons_succ, List.getElem_cons_zero, List.setIfInBounds_toArray, List.set_cons_succ, List.set_cons_zero]
  refine wpAnyH_ready (rs := [7]) (by kernel_rfl) (by simp) ?_
  refine AllReadyH.cons rfl (fun K hK => ?_) AllReadyH.nil
  go_simp
  (go_at_call 78; refine (LC.out _).mono ?_; rintro e w4 ⟨rfl, rfl⟩; (try go_simp))
  refine hK.out _ _ hHeld (fun hHeld => ?_)
  clear hK K
  refine wpAnyH_take (i := 8) (v := ?_) rfl (by kernel_rfl) (by kernel_rfl) (by kernel_rfl) (fun _ _ _ h => h) (Or.inl ⟨by rfl, ?_⟩) (by assumption) ?_
  rotate_left
  · (intro w' hSw; (try dsimp only at hSw); obtain ⟨q0, sk⟩ := hSw; go_simp; (try (with_reducible rfl)))
  simp only [Act.put, List.getElem_toArray, List.getElem_cons_succ, List.getElem_cons_zero, List.setIfInBounds_toArray, List.set_cons_succ, List.set_cons_zero]
  refine wpAnyH_done (by kernel_rfl) ?_ _
  have hk := hHeld.2
  clear hHeld
  go_wp2
  go_ret
  exact ⟨rfl, hk⟩
end Go.Proofs.YtgelggdgbmldiaaDoor
