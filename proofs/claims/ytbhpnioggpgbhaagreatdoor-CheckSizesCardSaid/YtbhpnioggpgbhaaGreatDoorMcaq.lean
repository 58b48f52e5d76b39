/-
 Layer 2: call. Written by an AI agent.
 Layer 2: block. Written by an AI agent.
-/
import Derived.Test.YtbhpnioggpgbhaaGreatDoorMcao
import Derived.Test.YtbhpnioggpgbhaaGreatDoorMcap
namespace Go.Proofs.YtbhpnioggpgbhaaGreatDoor
open Go Go.RowKit Go.Shelf
set_option linter.unusedVariables false
set_option linter.unusedSimpArgs false
set_option maxRecDepth 100000 in
set_option maxHeartbeats 16000000 in
theorem call_any {P : Nat} {src : ByteArray} {T : List Tok} {N : Nat} {ex : PM Int} (hsz : src.size ≤ 1000) (hN : N ≤ 100000) (EX : ExC P src T 119 ex) : ExC P src T 122 (callM src.data.toList T N ex) := by
 intro s r s' R w h hp
 obtain ⟨i0, hi0, hz0, hz1, hz2⟩ := info_parts info_int
 have HP0 := Lib.hid hp
 have HF0 := Lib.hid (Fr.refl R w)
 have HLO := Lib.hid hp.lo
 have HM := Lib.hid h
 clear h hp
 obtain ⟨ln, hln, h⟩ := ask_out HM.out
 obtain ⟨x, ex, h⟩ := ask_out h
 obtain ⟨s1, e1, h⟩ := mod_out h
 have HLN := Lib.hid hln
 have HEX := Lib.hid ex
 have HE1 := Lib.hid e1
 replace HM := Lib.hid h
 clear h hln ex e1
 go_enter Tryz.func122, Tryz.ntmps122
 go_upto_region 1 with fail
 go_cut [3] from 5 to 13 (fun s3 wx => ∃ (X : Nat) (Rk : Nat → Prop), s3 = .pointer (some ⟨X, 0, none⟩) ∧ Par wx P src T Rk s1 ∧ Fr R w Rk wx ∧ w.heap.size ≤ X ∧ Loc wx Rk X [.int .i64 21, .int .i64 ln, .int .i64 0, .string (ofL x), .slice none 0 0])
 case first =>
  refine wp_region_held_drew (S := fun _ => True) (by kernel_rfl) trivial (fun _ => ?_)
  have k1 : Keeps (fun _ => False) w w.drew := (Keeps.refl (fun _ => False) w).drew
  generalize w.drew = w1 at k1 ⊢
  have HP1 := Lib.hid (HP0.out.keep k1)
  have HF1 := Lib.hid (HF0.out.keeps k1)
  clear HP0 HF0 k1
  refine wpAnyH_take (i := 0) (v := ?_) rfl (by kernel_rfl) (by kernel_rfl) (by kernel_rfl) (fun _ _ _ h => h) (Or.inl ⟨by rfl, ?_⟩) (by assumption) ?_
  rotate_left
  ·(intro w' hSw; (try dsimp only at hSw); obtain ⟨_⟩ := hSw; go_simp; (try (with_reducible rfl)))
  simp only [Act.put, List.getElem_toArray, List.getElem_cons_succ, List.getElem_cons_zero, List.setIfInBounds_toArray, List.set_cons_succ, List.set_cons_zero]
  refine wpAnyH_take (i := 1) (v := ?_) rfl (by kernel_rfl) (by kernel_rfl) (by kernel_rfl) (fun _ _ _ h => h) (Or.inl ⟨by rfl, ?_⟩) (by assumption) ?_
  rotate_left
  ·(intro w' hSw; (try dsimp only at hSw); obtain ⟨_⟩ := hSw; go_simp; (try (with_reducible rfl)))
  simp only [Act.put, List.getElem_toArray, List.getElem_cons_succ, List.getElem_cons_zero, List.setIfInBounds_toArray, List.set_cons_succ, List.set_cons_zero]
  refine wpAnyH_take (i := 2) (v := ?_) rfl (by kernel_rfl) (by kernel_rfl) (by kernel_rfl) (fun _ _ _ h => h) (Or.inl ⟨by rfl, ?_⟩) (by assumption) ?_
  rotate_left
  ·(intro w' hSw; (try dsimp only at hSw); obtain ⟨_⟩ := hSw; go_simp; (try (with_reducible rfl)))
  simp only [Act.put, List.getElem_toArray, List.getElem_cons_succ, List.getElem_cons_zero, List.setIfInBounds_toArray, List.set_cons_succ, List.set_cons_zero]
  refine wpAnyH_take (i := 4) (v := ?_) rfl (by kernel_rfl) (by kernel_rfl) (by kernel_rfl) (fun _ _ _ h => h) (Or.inl ⟨by rfl, ?_⟩) (by assumption) ?_
  rotate_left
  ·(intro w' hSw; (try dsimp only at hSw); obtain ⟨_⟩ := hSw; go_simp; (try (with_reducible rfl)))
  simp only [Act.put, List.getElem_toArray, List.getElem_cons_succ, List.getElem_cons_zero, List.setIfInBounds_toArray, List.set_cons_succ, List.set_cons_zero]
  refine wpAnyH_take (i := 5) (v := ?_) rfl (by kernel_rfl) (by kernel_rfl) (by kernel_rfl) (fun _ _ _ h => h) (Or.inl ⟨by rfl, ?_⟩) (by assumption) ?_
  rotate_left
  ·(intro w' hSw; (try dsimp only at hSw); obtain ⟨_⟩ := hSw; go_simp; (try (with_reducible rfl)))
  simp only [Act.put, List.getElem_toArray, List.getElem_cons_succ, List.getElem_cons_zero, List.setIfInBounds_toArray, List.set_cons_succ, List.set_cons_zero]
  refine wpAnyH_take (i := 6) (v := ?_) rfl (by kernel_rfl) (by kernel_rfl) (by kernel_rfl) (fun _ _ _ h => h) (Or.inl ⟨by rfl, ?_⟩) (by assumption) ?_
  rotate_left
  ·(intro w' hSw; (try dsimp only at hSw); obtain ⟨_⟩ := hSw; go_simp; (try (with_reducible rfl)))
  simp only [Act.put, List.getElem_toArray, List.getElem_cons_succ, List.getElem_cons_zero, List.setIfInBounds_toArray, List.set_cons_succ, List.set_cons_zero]
  refine wpAnyH_ready (rs := [3, 9]) (by kernel_rfl) (by simp) ?_
  refine AllReadyH.cons rfl (fun K hK => ?_) ?_
  ·skip
   go_simp
   (go_at_call 59; refine (line_at hsz HP1.out HLN.out).mono ?_; rintro e w2 ⟨rfl, k1⟩; (try go_simp))
   have HP2 := Lib.hid (HP1.out.keep k1)
   have HF2 := Lib.hid (HF1.out.keeps k1)
   clear HP1 HF1 k1
   refine hK.out _ _ trivial (fun _ => ?_)
   clear hK K
   refine wpAnyH_ready (rs := [7, 9]) (by kernel_rfl) (by simp) ?_
   refine AllReadyH.cons rfl (fun K hK => ?_) ?_
   ·skip
    go_simp
    (go_at_call 61; refine (name_at HP2.out HE1.out HEX.out).mono ?_; rintro e w3 ⟨rfl, R4, hp, hf⟩; (try go_simp))
    have HP3 := Lib.hid hp
    have HF3 := Lib.hid (HF2.out.trans hf)
    clear HP2 HF2 hp hf 
    refine hK.out _ _ trivial (fun _ => ?_)
    clear hK K
    refine wpAnyH_take (i := 8) (v := ?_) rfl (by kernel_rfl) (by kernel_rfl) (by kernel_rfl) (fun _ _ _ h => h) (Or.inl ⟨by rfl, ?_⟩) (by assumption) ?_
    rotate_left
    ·(intro w' hSw; (try dsimp only at hSw); obtain ⟨_⟩ := hSw; go_simp; (try (with_reducible rfl)))
    simp only [Act.put, List.getElem_toArray, List.getElem_cons_succ, List.getElem_cons_zero, List.setIfInBounds_toArray, List.set_cons_succ, List.set_cons_zero]
    refine wpAnyH_ready (rs := [9]) (by kernel_rfl) (by simp) ?_
    refine AllReadyH.cons rfl (fun K hK => ?_) AllReadyH.nil
    go_simp
    refine hK.out _ _ trivial (fun _ => ?_)
    clear hK K
    have ka := Keeps.one w3 (.cells #[.int .i64 0, .int .i64 0, .int .i64 0, .string { data := #[] }, .slice none 0 0] 41)
    obtain ⟨X, hX⟩ : ∃ X, X = w3.heap.size := ⟨_, rfl⟩
    obtain ⟨w5, hw⟩ : ∃ w5, w5 = w3.alloc (.cells #[.int .i64 0, .int .i64 0, .int .i64 0, .string { data := #[] }, .slice none 0 0] 41) := ⟨_, rfl⟩
    have HXX4 : Hid (Loc w5 R4 X [.int .i64 0, .int .i64 0, .int .i64 0, .string (ofL []), .slice none 0 0]) := Lib.hid (by rw [hw, hX]; exact Loc.new HP3.out.new [.int .i64 0, .int .i64 0, .int .i64 0, .string (ofL []), .slice none 0 0] 41)
    have HWX : Hid (w.heap.size ≤ X) := Lib.hid (by rw [hX]; exact HF3.out.1.size)
    rw [← hX]
    rw [← hw] at ka ⊢
    have HP4 := Lib.hid (HP3.out.keep ka)
    have HF4 := Lib.hid (HF3.out.keeps ka)
    clear HP3 HF3 ka hw hX
    refine wpAnyH_ready (rs := [10]) (by kernel_rfl) (by simp) ?_
    refine AllReadyH.cons rfl (fun K hK => ?_) AllReadyH.nil
    have zX0 := HXX4.out.cells 0 _ rfl
    have zX1 := HXX4.out.cells 1 _ rfl
    have zX2 := HXX4.out.cells 2 _ rfl
    have zX3 := HXX4.out.cells 3 _ rfl
    have zX4 := HXX4.out.cells 4 _ rfl
    have gX0 := HXX4.out.fz 0
    have gX1 := HXX4.out.fz 1
    have gX2 := HXX4.out.fz 2
    have gX3 := HXX4.out.fz 3
    have gX4 := HXX4.out.fz 4
    go_simp
    refine hK.out _ _ trivial (fun _ => ?_)
    clear hK K
    clear zX0 zX1 zX2 zX3 zX4 gX0 gX1 gX2 gX3 gX4
    obtain ⟨w6, hw⟩ : ∃ w6, w6 = w5.setCell ⟨X, 0, none⟩ (.int .i64 21) := ⟨_, rfl⟩
    have HP5 := Lib.hid (HP4.out.local HXX4.out.out (Nat.lt_of_lt_of_le HLO.out HWX.out) 0 (.int .i64 21))
    have HF5 := Lib.hid (HF4.out.local HWX.out 0 (.int .i64 21))
    have HXX5 : Hid (Loc w6 R4 X [.int .i64 21, .int .i64 0, .int .i64 0, .string (ofL []), .slice none 0 0]) := Lib.hid (by rw [hw]; exact HXX4.out.set 0 (.int .i64 21) (by simp))
    rw [← hw] at HP5 HF5 ⊢
    clear HP4 HF4 HXX4 hw
    obtain ⟨w7, hw⟩ : ∃ w7, w7 = w6.setCell ⟨X, 1, none⟩ (.int .i64 ln) := ⟨_, rfl⟩
    have HP6 := Lib.hid (HP5.out.local HXX5.out.out (Nat.lt_of_lt_of_le HLO.out HWX.out) 1 (.int .i64 ln))
    have HF6 := Lib.hid (HF5.out.local HWX.out 1 (.int .i64 ln))
    have HXX6 : Hid (Loc w7 R4 X [.int .i64 21, .int .i64 ln, .int .i64 0, .string (ofL []), .slice none 0 0]) := Lib.hid (by rw [hw]; exact HXX5.out.set 1 (.int .i64 ln) (by simp))
    rw [← hw] at HP6 HF6 ⊢
    clear HP5 HF5 HXX5 hw
    obtain ⟨w8, hw⟩ : ∃ w8, w8 = w7.setCell ⟨X, 2, none⟩ (.int .i64 0) := ⟨_, rfl⟩
    have HP7 := Lib.hid (HP6.out.local HXX6.out.out (Nat.lt_of_lt_of_le HLO.out HWX.out) 2 (.int .i64 0))
    have HF7 := Lib.hid (HF6.out.local HWX.out 2 (.int .i64 0))
    have HXX7 : Hid (Loc w8 R4 X [.int .i64 21, .int .i64 ln, .int .i64 0, .string (ofL []), .slice none 0 0]) := Lib.hid (by rw [hw]; exact HXX6.out.set 2 (.int .i64 0) (by simp))
    rw [← hw] at HP7 HF7 ⊢
    clear HP6 HF6 HXX6 hw
    obtain ⟨w9, hw⟩ : ∃ w9, w9 = w8.setCell ⟨X, 3, none⟩ (.string (ofL x)) := ⟨_, rfl⟩
    have HP8 := Lib.hid (HP7.out.local HXX7.out.out (Nat.lt_of_lt_of_le HLO.out HWX.out) 3 (.string (ofL x)))
    have HF8 := Lib.hid (HF7.out.local HWX.out 3 (.string (ofL x)))
    have HXX8 : Hid (Loc w9 R4 X [.int .i64 21, .int .i64 ln, .int .i64 0, .string (ofL x), .slice none 0 0]) := Lib.hid (by rw [hw]; exact HXX7.out.set 3 (.string (ofL x)) (by simp))
    rw [← hw] at HP8 HF8 ⊢
    clear HP7 HF7 HXX7 hw
    obtain ⟨w10, hw⟩ : ∃ w10, w10 = w9.setCell ⟨X, 4, none⟩ (.slice none 0 0) := ⟨_, rfl⟩
    have HP9 := Lib.hid (HP8.out.local HXX8.out.out (Nat.lt_of_lt_of_le HLO.out HWX.out) 4 (.slice none 0 0))
    have HF9 := Lib.hid (HF8.out.local HWX.out 4 (.slice none 0 0))
    have HXX9 : Hid (Loc w10 R4 X [.int .i64 21, .int .i64 ln, .int .i64 0, .string (ofL x), .slice none 0 0]) := Lib.hid (by rw [hw]; exact HXX8.out.set 4 (.slice none 0 0) (by simp))
    rw [← hw] at HP9 HF9 ⊢
    clear HP8 HF8 HXX8 hw
    refine wpAnyH_done (by kernel_rfl) ?_ _
    go_wp2_with fail
    go_meet
    exact ⟨X, _, rfl, HP9.out, HF9.out, HWX.out, HXX9.out⟩
   refine AllReadyH.cons rfl (fun K hK => ?_) AllReadyH.nil
   go_simp
   refine hK.out _ _ trivial (fun _ => ?_)
   clear hK K
   have ka := Keeps.one w2 (.cells #[.int .i64 0, .int .i64 0, .int .i64 0, .string { data := #[] }, .slice none 0 0] 41)
   obtain ⟨X, hX⟩ : ∃ X, X = w2.heap.size := ⟨_, rfl⟩
   obtain ⟨w11, hw⟩ : ∃ w11, w11 = w2.alloc (.cells #[.int .i64 0, .int .i64 0, .int .i64 0, .string { data := #[] }, .slice none 0 0] 41) := ⟨_, rfl⟩
   have HXX3 : Hid (Loc w11 R X [.int .i64 0, .int .i64 0, .int .i64 0, .string (ofL []), .slice none 0 0]) := Lib.hid (by rw [hw, hX]; exact Loc.new HP2.out.new [.int .i64 0, .int .i64 0, .int .i64 0, .string (ofL []), .slice none 0 0] 41)
   have HWX : Hid (w.heap.size ≤ X) := Lib.hid (by rw [hX]; exact HF2.out.1.size)
   rw [← hX]
   rw [← hw] at ka ⊢
   have HP3 := Lib.hid (HP2.out.keep ka)
   have HF3 := Lib.hid (HF2.out.keeps ka)
   clear HP2 HF2 ka hw hX
   refine wpAnyH_ready (rs := [7]) (by kernel_rfl) (by simp) ?_
   refine AllReadyH.cons rfl (fun K hK => ?_) AllReadyH.nil
   go_simp
   (go_at_call 61; refine (name_at HP3.out HE1.out HEX.out).mono ?_; rintro e w12 ⟨rfl, R13, hp, hf⟩; (try go_simp))
   have HP4 := Lib.hid hp
   have HF4 := Lib.hid (HF3.out.trans hf)
   have HXX4 := Lib.hid (HXX3.out.keep hf)
   clear HP3 HF3 HXX3 hp hf 
   refine hK.out _ _ trivial (fun _ => ?_)
   clear hK K
   refine wpAnyH_take (i := 8) (v := ?_) rfl (by kernel_rfl) (by kernel_rfl) (by kernel_rfl) (fun _ _ _ h => h) (Or.inl ⟨by rfl, ?_⟩) (by assumption) ?_
   rotate_left
   ·(intro w' hSw; (try dsimp only at hSw); obtain ⟨_⟩ := hSw; go_simp; (try (with_reducible rfl)))
   simp only [Act.put, List.getElem_toArray, List.getElem_cons_succ, List.getElem_cons_zero, List.setIfInBounds_toArray, List.set_cons_succ, List.set_cons_zero]
   refine wpAnyH_ready (rs := [10]) (by kernel_rfl) (by simp) ?_
   refine AllReadyH.cons rfl (fun K hK => ?_) AllReadyH.nil
   have zX0 := HXX4.out.cells 0 _ rfl
   have zX1 := HXX4.out.cells 1 _ rfl
   have zX2 := HXX4.out.cells 2 _ rfl
   have zX3 := HXX4.out.cells 3 _ rfl
   have zX4 := HXX4.out.cells 4 _ rfl
   have gX0 := HXX4.out.fz 0
   have gX1 := HXX4.out.fz 1
   have gX2 := HXX4.out.fz 2
   have gX3 := HXX4.out.fz 3
   have gX4 := HXX4.out.fz 4
   go_simp
   refine hK.out _ _ trivial (fun _ => ?_)
   clear hK K
   clear zX0 zX1 zX2 zX3 zX4 gX0 gX1 gX2 gX3 gX4
   obtain ⟨w14, hw⟩ : ∃ w14, w14 = w12.setCell ⟨X, 0, none⟩ (.int .i64 21) := ⟨_, rfl⟩
   have HP5 := Lib.hid (HP4.out.local HXX4.out.out (Nat.lt_of_lt_of_le HLO.out HWX.out) 0 (.int .i64 21))
   have HF5 := Lib.hid (HF4.out.local HWX.out 0 (.int .i64 21))
   have HXX5 : Hid (Loc w14 R13 X [.int .i64 21, .int .i64 0, .int .i64 0, .string (ofL []), .slice none 0 0]) := Lib.hid (by rw [hw]; exact HXX4.out.set 0 (.int .i64 21) (by simp))
   rw [← hw] at HP5 HF5 ⊢
   clear HP4 HF4 HXX4 hw
   obtain ⟨w15, hw⟩ : ∃ w15, w15 = w14.setCell ⟨X, 1, none⟩ (.int .i64 ln) := ⟨_, rfl⟩
   have HP6 := Lib.hid (HP5.out.local HXX5.out.out (Nat.lt_of_lt_of_le HLO.out HWX.out) 1 (.int .i64 ln))
   have HF6 := Lib.hid (HF5.out.local HWX.out 1 (.int .i64 ln))
   have HXX6 : Hid (Loc w15 R13 X [.int .i64 21, .int .i64 ln, .int .i64 0, .string (ofL []), .slice none 0 0]) := Lib.hid (by rw [hw]; exact HXX5.out.set 1 (.int .i64 ln) (by simp))
   rw [← hw] at HP6 HF6 ⊢
   clear HP5 HF5 HXX5 hw
   obtain ⟨w16, hw⟩ : ∃ w16, w16 = w15.setCell ⟨X, 2, none⟩ (.int .i64 0) := ⟨_, rfl⟩
   have HP7 := Lib.hid (HP6.out.local HXX6.out.out (Nat.lt_of_lt_of_le HLO.out HWX.out) 2 (.int .i64 0))
   have HF7 := Lib.hid (HF6.out.local HWX.out 2 (.int .i64 0))
   have HXX7 : Hid (Loc w16 R13 X [.int .i64 21, .int .i64 ln, .int .i64 0, .string (ofL []), .slice none 0 0]) := Lib.hid (by rw [hw]; exact HXX6.out.set 2 (.int .i64 0) (by simp))
   rw [← hw] at HP7 HF7 ⊢
   clear HP6 HF6 HXX6 hw
   obtain ⟨w17, hw⟩ : ∃ w17, w17 = w16.setCell ⟨X, 3, none⟩ (.string (ofL x)) := ⟨_, rfl⟩
   have HP8 := Lib.hid (HP7.out.local HXX7.out.out (Nat.lt_of_lt_of_le HLO.out HWX.out) 3 (.string (ofL x)))
   have HF8 := Lib.hid (HF7.out.local HWX.out 3 (.string (ofL x)))
   have HXX8 : Hid (Loc w17 R13 X [.int .i64 21, .int .i64 ln, .int .i64 0, .string (ofL x), .slice none 0 0]) := Lib.hid (by rw [hw]; exact HXX7.out.set 3 (.string (ofL x)) (by simp))
   rw [← hw] at HP8 HF8 ⊢
   clear HP7 HF7 HXX7 hw
   obtain ⟨w18, hw⟩ : ∃ w18, w18 = w17.setCell ⟨X, 4, none⟩ (.slice none 0 0) := ⟨_, rfl⟩
   have HP9 := Lib.hid (HP8.out.local HXX8.out.out (Nat.lt_of_lt_of_le HLO.out HWX.out) 4 (.slice none 0 0))
   have HF9 := Lib.hid (HF8.out.local HWX.out 4 (.slice none 0 0))
   have HXX9 : Hid (Loc w18 R13 X [.int .i64 21, .int .i64 ln, .int .i64 0, .string (ofL x), .slice none 0 0]) := Lib.hid (by rw [hw]; exact HXX8.out.set 4 (.slice none 0 0) (by simp))
   rw [← hw] at HP9 HF9 ⊢
   clear HP8 HF8 HXX8 hw
   refine wpAnyH_done (by kernel_rfl) ?_ _
   go_wp2_with fail
   go_meet
   exact ⟨X, _, rfl, HP9.out, HF9.out, HWX.out, HXX9.out⟩
  refine AllReadyH.cons rfl (fun K hK => ?_) AllReadyH.nil
  go_simp
  refine hK.out _ _ trivial (fun _ => ?_)
  clear hK K
  have ka := Keeps.one w1 (.cells #[.int .i64 0, .int .i64 0, .int .i64 0, .string { data := #[] }, .slice none 0 0] 41)
  obtain ⟨X, hX⟩ : ∃ X, X = w1.heap.size := ⟨_, rfl⟩
  obtain ⟨w19, hw⟩ : ∃ w19, w19 = w1.alloc (.cells #[.int .i64 0, .int .i64 0, .int .i64 0, .string { data := #[] }, .slice none 0 0] 41) := ⟨_, rfl⟩
  have HXX2 : Hid (Loc w19 R X [.int .i64 0, .int .i64 0, .int .i64 0, .string (ofL []), .slice none 0 0]) := Lib.hid (by rw [hw, hX]; exact Loc.new HP1.out.new [.int .i64 0, .int .i64 0, .int .i64 0, .string (ofL []), .slice none 0 0] 41)
  have HWX : Hid (w.heap.size ≤ X) := Lib.hid (by rw [hX]; exact HF1.out.1.size)
  rw [← hX]
  rw [← hw] at ka ⊢
  have HP2 := Lib.hid (HP1.out.keep ka)
  have HF2 := Lib.hid (HF1.out.keeps ka)
  clear HP1 HF1 ka hw hX
  refine wpAnyH_ready (rs := [3]) (by kernel_rfl) (by simp) ?_
  refine AllReadyH.cons rfl (fun K hK => ?_) AllReadyH.nil
  go_simp
  (go_at_call 59; refine (line_at hsz HP2.out HLN.out).mono ?_; rintro e w20 ⟨rfl, k1⟩; (try go_simp))
  have HP3 := Lib.hid (HP2.out.keep k1)
  have HF3 := Lib.hid (HF2.out.keeps k1)
  have HXX3 := Lib.hid (HXX2.out.keeps k1)
  clear HP2 HF2 HXX2 k1
  refine hK.out _ _ trivial (fun _ => ?_)
  clear hK K
  refine wpAnyH_ready (rs := [7]) (by kernel_rfl) (by simp) ?_
  refine AllReadyH.cons rfl (fun K hK => ?_) AllReadyH.nil
  go_simp
  (go_at_call 61; refine (name_at HP3.out HE1.out HEX.out).mono ?_; rintro e w21 ⟨rfl, R22, hp, hf⟩; (try go_simp))
  have HP4 := Lib.hid hp
  have HF4 := Lib.hid (HF3.out.trans hf)
  have HXX4 := Lib.hid (HXX3.out.keep hf)
  clear HP3 HF3 HXX3 hp hf 
  refine hK.out _ _ trivial (fun _ => ?_)
  clear hK K
  refine wpAnyH_take (i := 8) (v := ?_) rfl (by kernel_rfl) (by kernel_rfl) (by kernel_rfl) (fun _ _ _ h => h) (Or.inl ⟨by rfl, ?_⟩) (by assumption) ?_
  rotate_left
  ·(intro w' hSw; (try dsimp only at hSw); obtain ⟨_⟩ := hSw; go_simp; (try (with_reducible rfl)))
  simp only [Act.put, List.getElem_toArray, List.getElem_cons_succ, List.getElem_cons_zero, List.setIfInBounds_toArray, List.set_cons_succ, List.set_cons_zero]
  refine wpAnyH_ready (rs := [10]) (by kernel_rfl) (by simp) ?_
  refine AllReadyH.cons rfl (fun K hK => ?_) AllReadyH.nil
  have zX0 := HXX4.out.cells 0 _ rfl
  have zX1 := HXX4.out.cells 1 _ rfl
  have zX2 := HXX4.out.cells 2 _ rfl
  have zX3 := HXX4.out.cells 3 _ rfl
  have zX4 := HXX4.out.cells 4 _ rfl
  have gX0 := HXX4.out.fz 0
  have gX1 := HXX4.out.fz 1
  have gX2 := HXX4.out.fz 2
  have gX3 := HXX4.out.fz 3
  have gX4 := HXX4.out.fz 4
  go_simp
  refine hK.out _ _ trivial (fun _ => ?_)
  clear hK K
  clear zX0 zX1 zX2 zX3 zX4 gX0 gX1 gX2 gX3 gX4
  obtain ⟨w23, hw⟩ : ∃ w23, w23 = w21.setCell ⟨X, 0, none⟩ (.int .i64 21) := ⟨_, rfl⟩
  have HP5 := Lib.hid (HP4.out.local HXX4.out.out (Nat.lt_of_lt_of_le HLO.out HWX.out) 0 (.int .i64 21))
  have HF5 := Lib.hid (HF4.out.local HWX.out 0 (.int .i64 21))
  have HXX5 : Hid (Loc w23 R22 X [.int .i64 21, .int .i64 0, .int .i64 0, .string (ofL []), .slice none 0 0]) := Lib.hid (by rw [hw]; exact HXX4.out.set 0 (.int .i64 21) (by simp))
  rw [← hw] at HP5 HF5 ⊢
  clear HP4 HF4 HXX4 hw
  obtain ⟨w24, hw⟩ : ∃ w24, w24 = w23.setCell ⟨X, 1, none⟩ (.int .i64 ln) := ⟨_, rfl⟩
  have HP6 := Lib.hid (HP5.out.local HXX5.out.out (Nat.lt_of_lt_of_le HLO.out HWX.out) 1 (.int .i64 ln))
  have HF6 := Lib.hid (HF5.out.local HWX.out 1 (.int .i64 ln))
  have HXX6 : Hid (Loc w24 R22 X [.int .i64 21, .int .i64 ln, .int .i64 0, .string (ofL []), .slice none 0 0]) := Lib.hid (by rw [hw]; exact HXX5.out.set 1 (.int .i64 ln) (by simp))
  rw [← hw] at HP6 HF6 ⊢
  clear HP5 HF5 HXX5 hw
  obtain ⟨w25, hw⟩ : ∃ w25, w25 = w24.setCell ⟨X, 2, none⟩ (.int .i64 0) := ⟨_, rfl⟩
  have HP7 := Lib.hid (HP6.out.local HXX6.out.out (Nat.lt_of_lt_of_le HLO.out HWX.out) 2 (.int .i64 0))
  have HF7 := Lib.hid (HF6.out.local HWX.out 2 (.int .i64 0))
  have HXX7 : Hid (Loc w25 R22 X [.int .i64 21, .int .i64 ln, .int .i64 0, .string (ofL []), .slice none 0 0]) := Lib.hid (by rw [hw]; exact HXX6.out.set 2 (.int .i64 0) (by simp))
  rw [← hw] at HP7 HF7 ⊢
  clear HP6 HF6 HXX6 hw
  obtain ⟨w26, hw⟩ : ∃ w26, w26 = w25.setCell ⟨X, 3, none⟩ (.string (ofL x)) := ⟨_, rfl⟩
  have HP8 := Lib.hid (HP7.out.local HXX7.out.out (Nat.lt_of_lt_of_le HLO.out HWX.out) 3 (.string (ofL x)))
  have HF8 := Lib.hid (HF7.out.local HWX.out 3 (.string (ofL x)))
  have HXX8 : Hid (Loc w26 R22 X [.int .i64 21, .int .i64 ln, .int .i64 0, .string (ofL x), .slice none 0 0]) := Lib.hid (by rw [hw]; exact HXX7.out.set 3 (.string (ofL x)) (by simp))
  rw [← hw] at HP8 HF8 ⊢
  clear HP7 HF7 HXX7 hw
  obtain ⟨w27, hw⟩ : ∃ w27, w27 = w26.setCell ⟨X, 4, none⟩ (.slice none 0 0) := ⟨_, rfl⟩
  have HP9 := Lib.hid (HP8.out.local HXX8.out.out (Nat.lt_of_lt_of_le HLO.out HWX.out) 4 (.slice none 0 0))
  have HF9 := Lib.hid (HF8.out.local HWX.out 4 (.slice none 0 0))
  have HXX9 : Hid (Loc w27 R22 X [.int .i64 21, .int .i64 ln, .int .i64 0, .string (ofL x), .slice none 0 0]) := Lib.hid (by rw [hw]; exact HXX8.out.set 4 (.slice none 0 0) (by simp))
  rw [← hw] at HP9 HF9 ⊢
  clear HP8 HF8 HXX8 hw
  refine wpAnyH_done (by kernel_rfl) ?_ _
  go_wp2_with fail
  go_meet
  exact ⟨X, _, rfl, HP9.out, HF9.out, HWX.out, HXX9.out⟩
 case rest =>
  obtain ⟨X, Rk, rfl, hp, hf, hxw, hx⟩ := hcut
  have HP0 := Lib.hid hp
  have HF0 := Lib.hid hf
  have HWX := Lib.hid hxw
  have HXX0 := Lib.hid hx
  clear hp hf hxw hx
  obtain ⟨s28, e1, h⟩ := mod_out HM.out
  have NC := Lib.hid (want_at HP0.out ({ data := #[40] }) e1)
  replace HM := Lib.hid h
  clear h e1
  go_wp2_with fail
  refine NC.out.mono ?_
  rintro e w29 ⟨rfl, R30, hp, hf⟩
  have HP1 := Lib.hid hp
  have HF1 := Lib.hid (HF0.out.trans hf)
  have HXX1 := Lib.hid (HXX0.out.keep hf)
  clear HP0 HF0 HXX0 hp hf NC 
  have HB1 : Hid (w29.ownsRow 0 3 1 (.slice none 0 0) 0 (valI []) ∧ ∀ g, (Value.slice none 0 0).ownBlock = some g → ¬ R30 g ∧ w.heap.size ≤ g) := Lib.hid ⟨World.ownsRow_nil _ _ _ _, fun g hg => by simp [Value.ownBlock] at hg⟩
  have HGX : Hid (∀ g, (Value.slice none 0 0).ownBlock = some g → ¬ X = g) := Lib.hid (fun g hg => by simp [Value.ownBlock] at hg)
  obtain ⟨L, sL, hm, h⟩ := bind_out HM.out
  have HA := Lib.hid hm
  replace HM := Lib.hid h
  clear h hm
  unfold argsM at HA
  obtain ⟨b, hb, h⟩ := ask_out HA.out
  have IC := Lib.hid (is_at1 HP1.out ({ data := #[41] }) hb)
  replace HA := Lib.hid h
  clear h hb
  cases b with
  | true =>
   have h := HA.out
   rw [if_pos rfl] at h
   replace HA := Lib.hid h
   clear h
   go_wp2_with fail
   refine IC.out.mono ?_
   rintro e w31 ⟨rfl, k1⟩
   have HP2 := Lib.hid (HP1.out.keep k1)
   have HF2 := Lib.hid (HF1.out.keeps k1)
   have HXX2 := Lib.hid (HXX1.out.keeps k1)
   have HB2 := Lib.hid (own_keep HB1.out.1 ((Fr.refl R30 w29).keeps k1) HB1.out.2)
   clear HP1 HF1 HXX1 HB1 IC k1 
   obtain ⟨q1, q2⟩ := pure_end HA.out
   subst q1
   subst q2
   clear HA
   obtain ⟨s32, e1, h⟩ := mod_out HM.out
   have NC := Lib.hid (want_at HP2.out ({ data := #[41] }) e1)
   replace HM := Lib.hid h
   clear h e1
   go_wp2_with fail
   refine NC.out.mono ?_
   rintro e w33 ⟨rfl, R34, hp, hf⟩
   have HP3 := Lib.hid hp
   have HF3 := Lib.hid (HF2.out.trans hf)
   have HXX3 := Lib.hid (HXX2.out.keep hf)
   have HB3 := Lib.hid (own_keep HB2.out.1 hf HB2.out.2)
   clear HP2 HF2 HXX2 HB2 hp hf NC 
   have NC := Lib.hid ((nodeC P src T).row HP3.out (21) (ln) (0) (x) [] (rfl) HB3.out.1 HF3.out HLO.out HB3.out.2 HM.out)
   have zX0 := HXX3.out.cells 0 _ rfl
   have zX1 := HXX3.out.cells 1 _ rfl
   have zX2 := HXX3.out.cells 2 _ rfl
   have zX3 := HXX3.out.cells 3 _ rfl
   have zX4 := HXX3.out.cells 4 _ rfl
   go_wp2_with fail
   refine NC.out.mono ?_
   rintro e w35 ⟨rfl, R36, hp, hf⟩
   have HZ : Hid (∃ R', Par w35 P src T R' s' ∧ Fr R w R' w35) := Lib.hid ⟨_, hp, hf⟩
   clear hp hf NC zX0 zX1 zX2 zX3 zX4
   go_wp2_with fail
   go_ret
   exact ⟨rfl, HZ.out⟩
  | false =>
   have h := HA.out
   rw [if_neg (by decide)] at h
   replace HA := Lib.hid h
   clear h
   go_wp2_with fail
   refine IC.out.mono ?_
   rintro e w37 ⟨rfl, k1⟩
   have HP2 := Lib.hid (HP1.out.keep k1)
   have HF2 := Lib.hid (HF1.out.keeps k1)
   have HXX2 := Lib.hid (HXX1.out.keeps k1)
   have HB2 := Lib.hid (own_keep HB1.out.1 ((Fr.refl R30 w29).keeps k1) HB1.out.2)
   clear HP1 HF1 HXX1 HB1 IC k1 
   obtain ⟨x0, s38, hm, h⟩ := bind_out HA.out
   have NC := Lib.hid (EX _ _ _ _ _ hm HP2.out)
   replace HA := Lib.hid h
   clear h hm
   go_wp2_with fail
   refine NC.out.mono ?_
   rintro e w39 ⟨rfl, R40, hp, hf⟩
   have HP3 := Lib.hid hp
   have HF3 := Lib.hid (HF2.out.trans hf)
   have HXX3 := Lib.hid (HXX2.out.keep hf)
   have HB3 := Lib.hid (own_keep HB2.out.1 hf HB2.out.2)
   clear HP2 HF2 HXX2 HB2 hp hf NC 
   go_wp2_with (at_builtin; refine wpList_append_atk rfl (.tmp 24) (.tmp 27) 28 rfl 0 3 i0 _ 1 8 Tryz.underlying28 hi0 hz0 hz1 hz2 (by rfl) (by omega) (.slice none 0 0) (0) (valI []) (by rfl) (ownsRow_keep HB3.out.1 (fun g hg => (Keeps.one w39 _).block g (own_ltk HB3.out.1 hg) (fun h => h))) ⟨w39.heap.size, 0, none⟩ 1 1 (valI [x0]) (by rfl) (by rfl) (newsI x0 _) (valI_one _) (by omega) (by omega) (Nat.zero_le _) ?_; intro v5 w41 h5 g5 b5; obtain ⟨A42, c43, rfl⟩ := own_formk h5; have hmm := own_more HP3.out HF3.out HLO.out HB3.out.2 (Keeps.one w39 (.cells #[.int .i64 x0] 3)) g5 b5; have HP4 := Lib.hid hmm.1; have HF4 := Lib.hid hmm.2.1; have HB4 : Hid (w41.ownsRow 0 3 1 (.slice A42 (0 + 1) c43) (0 + 1) (valI [x0]) ∧ ∀ g, (Value.slice A42 (0 + 1) c43).ownBlock = some g → ¬ R40 g ∧ w.heap.size ≤ g) := Lib.hid (And.intro (row_app h5) hmm.2.2.1); have HXX4 := Lib.hid (HXX3.out.keepsR hmm.2.2.2 (fun hv => HGX.out _ hv rfl)); replace HGX : Hid (∀ g, (Value.slice A42 (0 + 1) c43).ownBlock = some g → ¬ X = g) := Lib.hid (row_out b5 (Nat.lt_of_lt_of_le HXX3.out.lt (Keeps.one w39 _).size) HGX.out); clear hmm h5 g5 b5 HP3 HF3 HXX3 HB3)
   go_loopg [4] N (fun k s4 wr => ∃ (l : List Int) (A : Option Addr) (n c : Nat) (sk : PS) (Rk : Nat → Prop), s4 = .slice A n c ∧ n = l.length ∧ n + k ≤ N + 1 ∧ commaR T ex k l sk = some (L, sL) ∧ Par wr P src T Rk sk ∧ Fr R w Rk wr ∧ Loc wr Rk X [.int .i64 21, .int .i64 ln, .int .i64 0, .string (ofL x), .slice none 0 0] ∧ (wr.ownsRow 0 3 1 (.slice A n c) n (valI l) ∧ ∀ g, (Value.slice A n c).ownBlock = some g → ¬ Rk g ∧ w.heap.size ≤ g) ∧ ∀ g, (Value.slice A n c).ownBlock = some g → ¬ X = g)
   case atStart => exact ⟨[x0], _, 1, _, _, _, rfl, rfl, by omega, HA.out, HP4.out, HF4.out, HXX4.out, HB4.out, HGX.out⟩
   case round =>
    obtain ⟨l, A, n, c, sk, Rk, rfl, hnl, hnk, hm, hp, hf, hx, hb, hg⟩ := hrel
    clear HP4 HF4 HXX4 HB4 HA HGX
    cases gk with
    | zero =>
     have h0 : (none : Option (List Int × PS)) = some (L, sL) := hm
     cases h0
    | succ k =>
     unfold commaR at hm
     have HP0 := Lib.hid hp
     have HF0 := Lib.hid hf
     have HXX0 := Lib.hid hx
     have HB0 := Lib.hid hb
     have HGX := Lib.hid hg
     have HA := Lib.hid hm
     have HNL := Lib.hid hnl
     have HNK := Lib.hid hnk
     have hn2 : n ≤ 100001 := by omega
     clear hp hf hx hb hg hm hnl hnk
     obtain ⟨b, hb, h⟩ := ask_out HA.out
     have IC := Lib.hid (is_at1 HP0.out ({ data := #[44] }) hb)
     replace HA := Lib.hid h
     clear h hb
     cases b with
     | true =>
      have h := HA.out
      rw [if_pos rfl] at h
      replace HA := Lib.hid h
      clear h
      go_wp2_with fail
      refine IC.out.mono ?_
      rintro e w44 ⟨rfl, k1⟩
      have HP1 := Lib.hid (HP0.out.keep k1)
      have HF1 := Lib.hid (HF0.out.keeps k1)
      have HXX1 := Lib.hid (HXX0.out.keeps k1)
      have HB1 := Lib.hid (own_keep HB0.out.1 ((Fr.refl Rk wr).keeps k1) HB0.out.2)
      clear HP0 HF0 HXX0 HB0 IC k1 
      obtain ⟨s45, e1, h⟩ := mod_out HA.out
      have NC := Lib.hid (next_at HP1.out e1)
      replace HA := Lib.hid h
      clear h e1
      go_wp2_with fail
      refine NC.out.mono ?_
      rintro e w46 ⟨rfl, R47, hp, hf⟩
      have HP2 := Lib.hid hp
      have HF2 := Lib.hid (HF1.out.trans hf)
      have HXX2 := Lib.hid (HXX1.out.keep hf)
      have HB2 := Lib.hid (own_keep HB1.out.1 hf HB1.out.2)
      clear HP1 HF1 HXX1 HB1 hp hf NC 
      obtain ⟨y, s48, hm, h⟩ := bind_out HA.out
      have NC := Lib.hid (EX _ _ _ _ _ hm HP2.out)
      replace HA := Lib.hid h
      clear h hm
      go_wp2_with fail
      refine NC.out.mono ?_
      rintro e w49 ⟨rfl, R50, hp, hf⟩
      have HP3 := Lib.hid hp
      have HF3 := Lib.hid (HF2.out.trans hf)
      have HXX3 := Lib.hid (HXX2.out.keep hf)
      have HB3 := Lib.hid (own_keep HB2.out.1 hf HB2.out.2)
      clear HP2 HF2 HXX2 HB2 hp hf NC 
      go_wp2_with (at_builtin; refine wpList_append_atk rfl (.tmp 38) (.tmp 41) 28 rfl 0 3 i0 _ 1 8 Tryz.underlying28 hi0 hz0 hz1 hz2 (by rfl) (by omega) (.slice A n c) (n) (valI l) (by rfl) (ownsRow_keep HB3.out.1 (fun g hg => (Keeps.one w49 _).block g (own_ltk HB3.out.1 hg) (fun h => h))) ⟨w49.heap.size, 0, none⟩ 1 1 (valI [y]) (by rfl) (by rfl) (newsI y _) (valI_one _) (by omega) (by omega) (Nat.zero_le _) ?_; intro v5 w51 h5 g5 b5; obtain ⟨A52, c53, rfl⟩ := own_formk h5; have hmm := own_more HP3.out HF3.out HLO.out HB3.out.2 (Keeps.one w49 (.cells #[.int .i64 y] 3)) g5 b5; have HP4 := Lib.hid hmm.1; have HF4 := Lib.hid hmm.2.1; have HB4 : Hid (w51.ownsRow 0 3 1 (.slice A52 (n + 1) c53) (n + 1) (valI (l ++ [y])) ∧ ∀ g, (Value.slice A52 (n + 1) c53).ownBlock = some g → ¬ R50 g ∧ w.heap.size ≤ g) := Lib.hid (And.intro (row_app h5) hmm.2.2.1); have HXX4 := Lib.hid (HXX3.out.keepsR hmm.2.2.2 (fun hv => HGX.out _ hv rfl)); replace HGX : Hid (∀ g, (Value.slice A52 (n + 1) c53).ownBlock = some g → ¬ X = g) := Lib.hid (row_out b5 (Nat.lt_of_lt_of_le HXX3.out.lt (Keeps.one w49 _).size) HGX.out); clear hmm h5 g5 b5 HP3 HF3 HXX3 HB3)
      go_roundg k
      case measure => omega
      case rel => exact ⟨l ++ [y], _, n + 1, _, _, _, rfl, by rw [List.length_append, ← HNL.out]; rfl, by have := HNK.out; omega, HA.out, HP4.out, HF4.out, HXX4.out, HB4.out, HGX.out⟩
     | false =>
      have h := HA.out
      rw [if_neg (by decide)] at h
      replace HA := Lib.hid h
      clear h
      go_wp2_with fail
      refine IC.out.mono ?_
      rintro e w54 ⟨rfl, k1⟩
      have HP1 := Lib.hid (HP0.out.keep k1)
      have HF1 := Lib.hid (HF0.out.keeps k1)
      have HXX1 := Lib.hid (HXX0.out.keeps k1)
      have HB1 := Lib.hid (own_keep HB0.out.1 ((Fr.refl Rk wr).keeps k1) HB0.out.2)
      clear HP0 HF0 HXX0 HB0 IC k1 
      obtain ⟨q1, q2⟩ := pure_end HA.out
      subst q1
      subst q2
      clear HA
      obtain ⟨s55, e1, h⟩ := mod_out HM.out
      have NC := Lib.hid (want_at HP1.out ({ data := #[41] }) e1)
      replace HM := Lib.hid h
      clear h e1
      go_wp2_with fail
      refine NC.out.mono ?_
      rintro e w56 ⟨rfl, R57, hp, hf⟩
      have HP2 := Lib.hid hp
      have HF2 := Lib.hid (HF1.out.trans hf)
      have HXX2 := Lib.hid (HXX1.out.keep hf)
      have HB2 := Lib.hid (own_keep HB1.out.1 hf HB1.out.2)
      clear HP1 HF1 HXX1 HB1 hp hf NC 
      have NC := Lib.hid ((nodeC P src T).row HP2.out (21) (ln) (0) (x) L (HNL.out) HB2.out.1 HF2.out HLO.out HB2.out.2 HM.out)
      have zX0 := HXX2.out.cells 0 _ rfl
      have zX1 := HXX2.out.cells 1 _ rfl
      have zX2 := HXX2.out.cells 2 _ rfl
      have zX3 := HXX2.out.cells 3 _ rfl
      have zX4 := HXX2.out.cells 4 _ rfl
      go_wp2_with fail
      refine NC.out.mono ?_
      rintro e w58 ⟨rfl, R59, hp, hf⟩
      have HZ : Hid (∃ R', Par w58 P src T R' s' ∧ Fr R w R' w58) := Lib.hid ⟨_, hp, hf⟩
      clear hp hf NC zX0 zX1 zX2 zX3 zX4
      go_wp2_with fail
      go_ret
      exact ⟨rfl, HZ.out⟩
end Go.Proofs.YtbhpnioggpgbhaaGreatDoor

namespace Go.Proofs.YtbhpnioggpgbhaaGreatDoor
open Go Go.RowKit Go.Shelf
set_option linter.unusedVariables false
set_option linter.unusedSimpArgs false
set_option maxRecDepth 100000 in
set_option maxHeartbeats 16000000 in
theorem block_any {P : Nat} {src : ByteArray} {T : List Tok} {N : Nat} {st : PM Int} (hsz : src.size ≤ 1000) (hN : N ≤ 100000) (ST : ExC P src T 95 st) : ExC P src T 66 (blockM src.data.toList T N st) := by
 intro s r s' R w h hp
 obtain ⟨i0, hi0, hz0, hz1, hz2⟩ := info_parts info_int
 have HP0 := Lib.hid hp
 have HF0 := Lib.hid (Fr.refl R w)
 have HLO := Lib.hid hp.lo
 have HM := Lib.hid h
 clear h hp
 go_enter Tryz.func66, Tryz.ntmps66
 obtain ⟨ln, hln, h⟩ := ask_out HM.out
 have LC := Lib.hid (line_at hsz HP0.out hln)
 replace HM := Lib.hid h
 clear h hln
 go_wp2_with fail
 refine LC.out.mono ?_
 rintro e w1 ⟨rfl, k1⟩
 have HP1 := Lib.hid (HP0.out.keep k1)
 have HF1 := Lib.hid (HF0.out.keeps k1)
 clear HP0 HF0 LC k1 
 go_upto_region 2 with fail
 have ka := Keeps.one w1 (.cells #[.int .i64 18, .int .i64 ln, .int .i64 0, .string { data := #[] }, .slice none 0 0] 41)
 obtain ⟨X, hX⟩ : ∃ X, X = w1.heap.size := ⟨_, rfl⟩
 obtain ⟨w2, hw⟩ : ∃ w2, w2 = w1.alloc (.cells #[.int .i64 18, .int .i64 ln, .int .i64 0, .string { data := #[] }, .slice none 0 0] 41) := ⟨_, rfl⟩
 have HXX2 : Hid (Loc w2 R X [.int .i64 18, .int .i64 ln, .int .i64 0, .string (ofL []), .slice none 0 0]) := Lib.hid (by rw [hw, hX]; exact Loc.new HP1.out.new [.int .i64 18, .int .i64 ln, .int .i64 0, .string (ofL []), .slice none 0 0] 41)
 have HWX : Hid (w.heap.size ≤ X) := Lib.hid (by rw [hX]; exact HF1.out.1.size)
 rw [← hX]
 rw [← hw] at ka ⊢
 have HP2 := Lib.hid (HP1.out.keep ka)
 have HF2 := Lib.hid (HF1.out.keeps ka)
 clear HP1 HF1 ka hw hX
 obtain ⟨u, s3, hm, h⟩ := bind_out HM.out
 have NC := Lib.hid (open_any HP2.out ({ data := #[123] }) hm)
 replace HM := Lib.hid h
 clear h hm
 go_wp2_with fail
 refine NC.out.mono ?_
 rintro e w4 ⟨rfl, R5, hp, hf⟩
 have HP3 := Lib.hid hp
 have HF3 := Lib.hid (HF2.out.trans hf)
 have HXX3 := Lib.hid (HXX2.out.keep hf)
 clear HP2 HF2 HXX2 hp hf NC 
 obtain ⟨L, sL, hm, h⟩ := bind_out HM.out
 have HA := Lib.hid hm
 replace HM := Lib.hid h
 clear h hm
 go_wp2_with fail
 go_loopg [4] N (fun k s4 wr => ∃ (l : List Int) (A : Option Addr) (n c : Nat) (sk : PS) (Rk : Nat → Prop), s4 = .slice A n c ∧ n = l.length ∧ n + k ≤ N ∧ stmsR T st k l sk = some (L, sL) ∧ Par wr P src T Rk sk ∧ Fr R w Rk wr ∧ Loc wr Rk X [.int .i64 18, .int .i64 ln, .int .i64 0, .string (ofL []), .slice none 0 0] ∧ (wr.ownsRow 0 3 1 (.slice A n c) n (valI l) ∧ ∀ g, (Value.slice A n c).ownBlock = some g → ¬ Rk g ∧ w.heap.size ≤ g) ∧ ∀ g, (Value.slice A n c).ownBlock = some g → ¬ X = g)
 case atStart => exact ⟨[], none, 0, 0, _, _, rfl, rfl, by omega, HA.out, HP3.out, HF3.out, HXX3.out, ⟨World.ownsRow_nil _ _ _ _, fun g hg => by simp [Value.ownBlock] at hg⟩, fun g hg => by simp [Value.ownBlock] at hg⟩
 case round =>
  obtain ⟨l, A, n, c, sk, Rk, rfl, hnl, hnk, hm, hp, hf, hx, hb, hg⟩ := hrel
  clear HP3 HF3 HXX3 HA
  cases gk with
  | zero =>
   have h0 : (none : Option (List Int × PS)) = some (L, sL) := hm
   cases h0
  | succ k =>
   unfold stmsR at hm
   have c4 := hp.see.c4
   obtain ⟨b, hb2, hm⟩ := ask_out hm
   have HP0 := Lib.hid hp
   have HF0 := Lib.hid hf
   have HXX0 := Lib.hid hx
   have HB0 := Lib.hid hb
   have HGX := Lib.hid hg
   have HA := Lib.hid hm
   have HNL := Lib.hid hnl
   have HNK := Lib.hid hnk
   have hn2 : n ≤ 100001 := by omega
   clear hp hf hx hb hg hm hnl hnk
   by_cases he : sk.er = 0
   ·skip
    rw [he] at c4
    obtain ⟨b1, hb1⟩ : ∃ b1, b1 = isS T [[125]] sk := ⟨_, rfl⟩
    have hbb : b = !b1 := by rw [hb2, decide_eq_true he, hb1]; rfl
    subst hbb
    have IC := Lib.hid (is_at1 HP0.out ({ data := #[125] }) hb1)
    clear hb1 he hb2
    cases b1 with
    | true =>
     go_wp2_with fail
     refine IC.out.mono ?_
     rintro e w6 ⟨rfl, k1⟩
     have HP1 := Lib.hid (HP0.out.keep k1)
     have HF1 := Lib.hid (HF0.out.keeps k1)
     have HXX1 := Lib.hid (HXX0.out.keeps k1)
     have HB1 := Lib.hid (own_keep HB0.out.1 ((Fr.refl Rk wr).keeps k1) HB0.out.2)
     clear HP0 HF0 HXX0 HB0 IC k1 c4
     have h := HA.out
     rw [if_neg (by decide)] at h
     obtain ⟨q1, q2⟩ := pure_end h
     subst q1
     subst q2
     clear HA h
     obtain ⟨u, s7, hm, h⟩ := bind_out HM.out
     have NC := Lib.hid (shut_any HP1.out ({ data := #[125] }) hm)
     replace HM := Lib.hid h
     clear h hm
     go_wp2_with fail
     refine NC.out.mono ?_
     rintro e w8 ⟨rfl, R9, hp, hf⟩
     have HP2 := Lib.hid hp
     have HF2 := Lib.hid (HF1.out.trans hf)
     have HXX2 := Lib.hid (HXX1.out.keep hf)
     have HB2 := Lib.hid (own_keep HB1.out.1 hf HB1.out.2)
     clear HP1 HF1 HXX1 HB1 hp hf NC 
     have NC := Lib.hid ((nodeC P src T).row HP2.out (18) (ln) (0) ([]) L (HNL.out) HB2.out.1 HF2.out HLO.out HB2.out.2 HM.out)
     have zX0 := HXX2.out.cells 0 _ rfl
     have zX1 := HXX2.out.cells 1 _ rfl
     have zX2 := HXX2.out.cells 2 _ rfl
     have zX3 := HXX2.out.cells 3 _ rfl
     have zX4 := HXX2.out.cells 4 _ rfl
     go_wp2_with fail
     refine NC.out.mono ?_
     rintro e w10 ⟨rfl, R11, hp, hf⟩
     have HZ : Hid (∃ R', Par w10 P src T R' s' ∧ Fr R w R' w10) := Lib.hid ⟨_, hp, hf⟩
     clear hp hf NC zX0 zX1 zX2 zX3 zX4
     go_wp2_with fail
     go_ret
     exact ⟨rfl, HZ.out⟩
    | false =>
     go_wp2_with fail
     refine IC.out.mono ?_
     rintro e w12 ⟨rfl, k1⟩
     have HP1 := Lib.hid (HP0.out.keep k1)
     have HF1 := Lib.hid (HF0.out.keeps k1)
     have HXX1 := Lib.hid (HXX0.out.keeps k1)
     have HB1 := Lib.hid (own_keep HB0.out.1 ((Fr.refl Rk wr).keeps k1) HB0.out.2)
     clear HP0 HF0 HXX0 HB0 IC k1 c4
     have h := HA.out
     rw [if_pos (by rfl)] at h
     replace HA := Lib.hid h
     clear h
     obtain ⟨y, s13, hm, h⟩ := bind_out HA.out
     have NC := Lib.hid (ST _ _ _ _ _ hm HP1.out)
     replace HA := Lib.hid h
     clear h hm
     go_wp2_with fail
     refine NC.out.mono ?_
     rintro e w14 ⟨rfl, R15, hp, hf⟩
     have HP2 := Lib.hid hp
     have HF2 := Lib.hid (HF1.out.trans hf)
     have HXX2 := Lib.hid (HXX1.out.keep hf)
     have HB2 := Lib.hid (own_keep HB1.out.1 hf HB1.out.2)
     clear HP1 HF1 HXX1 HB1 hp hf NC 
     go_wp2_with (at_builtin; refine wpList_append_atk rfl (.tmp 26) (.tmp 29) 28 rfl 0 3 i0 _ 1 8 Tryz.underlying28 hi0 hz0 hz1 hz2 (by rfl) (by omega) (.slice A n c) (n) (valI l) (by rfl) (ownsRow_keep HB2.out.1 (fun g hg => (Keeps.one w14 _).block g (own_ltk HB2.out.1 hg) (fun h => h))) ⟨w14.heap.size, 0, none⟩ 1 1 (valI [y]) (by rfl) (by rfl) (newsI y _) (valI_one _) (by omega) (by omega) (Nat.zero_le _) ?_; intro v5 w16 h5 g5 b5; obtain ⟨A17, c18, rfl⟩ := own_formk h5; have hmm := own_more HP2.out HF2.out HLO.out HB2.out.2 (Keeps.one w14 (.cells #[.int .i64 y] 3)) g5 b5; have HP3 := Lib.hid hmm.1; have HF3 := Lib.hid hmm.2.1; have HB3 : Hid (w16.ownsRow 0 3 1 (.slice A17 (n + 1) c18) (n + 1) (valI (l ++ [y])) ∧ ∀ g, (Value.slice A17 (n + 1) c18).ownBlock = some g → ¬ R15 g ∧ w.heap.size ≤ g) := Lib.hid (And.intro (row_app h5) hmm.2.2.1); have HXX3 := Lib.hid (HXX2.out.keepsR hmm.2.2.2 (fun hv => HGX.out _ hv rfl)); replace HGX : Hid (∀ g, (Value.slice A17 (n + 1) c18).ownBlock = some g → ¬ X = g) := Lib.hid (row_out b5 (Nat.lt_of_lt_of_le HXX2.out.lt (Keeps.one w14 _).size) HGX.out); clear hmm h5 g5 b5 HP2 HF2 HXX2 HB2)
     go_roundg k
     case measure => omega
     case rel => exact ⟨l ++ [y], _, n + 1, _, _, _, rfl, by rw [List.length_append, ← HNL.out]; rfl, by have := HNK.out; omega, HA.out, HP3.out, HF3.out, HXX3.out, HB3.out, HGX.out⟩
   ·skip
    have heI : ¬ (sk.er : Int) = 0 := by omega
    have hd : ((sk.er : Int) == 0) = false := by simpa using heI
    have hbb : b = false := by rw [hb2, decide_eq_false he]; rfl
    subst hbb
    generalize (sk.er : Int) = er at c4 heI hd
    clear hb2 he
    go_upto_region 6 with fail
    clear c4 heI hd
    have h := HA.out
    rw [if_neg (by decide)] at h
    obtain ⟨q1, q2⟩ := pure_end h
    subst q1
    subst q2
    clear HA h
    obtain ⟨u, s19, hm, h⟩ := bind_out HM.out
    have NC := Lib.hid (shut_any HP0.out ({ data := #[125] }) hm)
    replace HM := Lib.hid h
    clear h hm
    go_wp2_with fail
    refine NC.out.mono ?_
    rintro e w20 ⟨rfl, R21, hp, hf⟩
    have HP1 := Lib.hid hp
    have HF1 := Lib.hid (HF0.out.trans hf)
    have HXX1 := Lib.hid (HXX0.out.keep hf)
    have HB1 := Lib.hid (own_keep HB0.out.1 hf HB0.out.2)
    clear HP0 HF0 HXX0 HB0 hp hf NC 
    have NC := Lib.hid ((nodeC P src T).row HP1.out (18) (ln) (0) ([]) L (HNL.out) HB1.out.1 HF1.out HLO.out HB1.out.2 HM.out)
    have zX0 := HXX1.out.cells 0 _ rfl
    have zX1 := HXX1.out.cells 1 _ rfl
    have zX2 := HXX1.out.cells 2 _ rfl
    have zX3 := HXX1.out.cells 3 _ rfl
    have zX4 := HXX1.out.cells 4 _ rfl
    go_wp2_with fail
    refine NC.out.mono ?_
    rintro e w22 ⟨rfl, R23, hp, hf⟩
    have HZ : Hid (∃ R', Par w22 P src T R' s' ∧ Fr R w R' w22) := Lib.hid ⟨_, hp, hf⟩
    clear hp hf NC zX0 zX1 zX2 zX3 zX4
    go_wp2_with fail
    go_ret
    exact ⟨rfl, HZ.out⟩
/-- What statements tell, so deep at most. -/
theorem st_any {P : Nat} {src : ByteArray} {T : List Tok} {N : Nat} (hsz : src.size ≤ 1000) (hN : N ≤ 100000) (n : Nat) : ExC P src T 95 (stM src.data.toList T N n) := by
 induction n with
 | zero => exact fun s a s1 R w h => (by cases h)
 | succ n ih =>
  have EX : ExC P src T 119 (exM src.data.toList T N 0) := expr_any ((ex_any hsz N).2 0 (by omega))
  have CALL := call_any (N := N) hsz hN EX
  exact statement_any hsz EX (block_any hsz hN ih) CALL (right_any hsz EX CALL)
end Go.Proofs.YtbhpnioggpgbhaaGreatDoor
