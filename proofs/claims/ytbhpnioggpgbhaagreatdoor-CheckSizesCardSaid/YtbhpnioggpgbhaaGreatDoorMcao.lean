/-
 Layer 2: statement. Written by an AI agent.
-/
import Derived.Test.YtbhpnioggpgbhaaGreatDoorMcan
namespace Go.Proofs.YtbhpnioggpgbhaaGreatDoor
open Go Go.RowKit Go.Shelf
set_option linter.unusedVariables false
set_option linter.unusedSimpArgs false
set_option maxRecDepth 100000 in
set_option maxHeartbeats 16000000 in
theorem statement_any {P : Nat} {src : ByteArray} {T : List Tok} {N : Nat} {ex bl : PM Int} (hsz : src.size ≤ 1000) (EX : ExC P src T 119 ex) (BL : ExC P src T 66 bl) (CALL : ExC P src T 122 (callM src.data.toList T N ex)) (RIGHT : ExC P src T 123 (rightM src.data.toList T N ex)) : ExC P src T 95 (statementM src.data.toList T N ex bl) := by
 intro s r s' R w h hp
 have HP0 := Lib.hid hp
 have HF0 := Lib.hid (Fr.refl R w)
 have HLO := Lib.hid hp.lo
 have HM := Lib.hid h
 clear h hp
 go_enter Tryz.func95, Tryz.ntmps95
 obtain ⟨ln, hln, h⟩ := ask_out HM.out
 have LC := Lib.hid (line_at hsz HP0.out hln)
 replace HM := Lib.hid h
 clear h hln
 go_wp2_with fail
 refine LC.out.mono ?_
 rintro e w1 ⟨rfl, k1⟩
 have HP1 := Lib.hid (HP0.out.keep k1)
 have HF1 := Lib.hid (HF0.out.keeps k1)
 clear HP0 HF0 LC k1 
 go_upto_region 2 with fail
 have ka := Keeps.one w1 (.cells #[.int .i64 0, .int .i64 ln, .int .i64 0, .string { data := #[] }, .slice none 0 0] 41)
 obtain ⟨X, hX⟩ : ∃ X, X = w1.heap.size := ⟨_, rfl⟩
 obtain ⟨w2, hw⟩ : ∃ w2, w2 = w1.alloc (.cells #[.int .i64 0, .int .i64 ln, .int .i64 0, .string { data := #[] }, .slice none 0 0] 41) := ⟨_, rfl⟩
 have HXX2 : Hid (Loc w2 R X [.int .i64 0, .int .i64 ln, .int .i64 0, .string (ofL []), .slice none 0 0]) := Lib.hid (by rw [hw, hX]; exact Loc.new HP1.out.new [.int .i64 0, .int .i64 ln, .int .i64 0, .string (ofL []), .slice none 0 0] 41)
 have HWX : Hid (w.heap.size ≤ X) := Lib.hid (by rw [hX]; exact HF1.out.1.size)
 rw [← hX]
 rw [← hw] at ka ⊢
 have HP2 := Lib.hid (HP1.out.keep ka)
 have HF2 := Lib.hid (HF1.out.keeps ka)
 clear HP1 HF1 ka hw hX
 obtain ⟨b, hb, h⟩ := ask_out HM.out
 have IC := Lib.hid (is_at1 HP2.out ({ data := #[105, 102] }) hb)
 replace HM := Lib.hid h
 clear h hb
 cases b with
 | true =>
  have h := HM.out
  rw [if_pos rfl] at h
  replace HM := Lib.hid h
  clear h
  go_wp2_with fail
  refine IC.out.mono ?_
  rintro e w3 ⟨rfl, k1⟩
  have HP3 := Lib.hid (HP2.out.keep k1)
  have HF3 := Lib.hid (HF2.out.keeps k1)
  have HXX3 := Lib.hid (HXX2.out.keeps k1)
  clear HP2 HF2 HXX2 IC k1 
  have zX0 := HXX3.out.cells 0 _ rfl
  have zX1 := HXX3.out.cells 1 _ rfl
  have zX2 := HXX3.out.cells 2 _ rfl
  have zX3 := HXX3.out.cells 3 _ rfl
  have zX4 := HXX3.out.cells 4 _ rfl
  have NC := Lib.hid (choice_any EX BL ln _ _ _ _ _ HM.out HP3.out)
  go_wp2_with fail
  refine NC.out.mono ?_
  rintro e w4 ⟨rfl, R5, hp, hf⟩
  have HP4 := Lib.hid hp
  have HF4 := Lib.hid (HF3.out.trans hf)
  have HXX4 := Lib.hid (HXX3.out.keep hf)
  clear HP3 HF3 HXX3 hp hf NC zX0 zX1 zX2 zX3 zX4
  go_wp2_with fail
  go_ret
  exact ⟨rfl, _, HP4.out, HF4.out⟩
 | false =>
  have h := HM.out
  rw [if_neg (by decide)] at h
  replace HM := Lib.hid h
  clear h
  go_wp2_with fail
  refine IC.out.mono ?_
  rintro e w6 ⟨rfl, k1⟩
  have HP3 := Lib.hid (HP2.out.keep k1)
  have HF3 := Lib.hid (HF2.out.keeps k1)
  have HXX3 := Lib.hid (HXX2.out.keeps k1)
  clear HP2 HF2 HXX2 IC k1 
  obtain ⟨b, hb, h⟩ := ask_out HM.out
  have IC := Lib.hid (is_at1 HP3.out ({ data := #[119, 104, 105, 108, 101] }) hb)
  replace HM := Lib.hid h
  clear h hb
  cases b with
  | true =>
   have h := HM.out
   rw [if_pos rfl] at h
   replace HM := Lib.hid h
   clear h
   go_wp2_with fail
   refine IC.out.mono ?_
   rintro e w7 ⟨rfl, k1⟩
   have HP4 := Lib.hid (HP3.out.keep k1)
   have HF4 := Lib.hid (HF3.out.keeps k1)
   have HXX4 := Lib.hid (HXX3.out.keeps k1)
   clear HP3 HF3 HXX3 IC k1 
   obtain ⟨s8, e1, h⟩ := mod_out HM.out
   have NC := Lib.hid (next_at HP4.out e1)
   replace HM := Lib.hid h
   clear h e1
   go_wp2_with fail
   refine NC.out.mono ?_
   rintro e w9 ⟨rfl, R10, hp, hf⟩
   have HP5 := Lib.hid hp
   have HF5 := Lib.hid (HF4.out.trans hf)
   have HXX5 := Lib.hid (HXX4.out.keep hf)
   clear HP4 HF4 HXX4 hp hf NC 
   have zX0 := HXX5.out.cells 0 _ rfl
   have gX0 := HXX5.out.fz 0
   go_upto_region 7 with fail
   clear zX0 gX0
   obtain ⟨w11, hw⟩ : ∃ w11, w11 = w9.setCell ⟨X, 0, none⟩ (.int .i64 16) := ⟨_, rfl⟩
   have HP6 := Lib.hid (HP5.out.local HXX5.out.out (Nat.lt_of_lt_of_le HLO.out HWX.out) 0 (.int .i64 16))
   have HF6 := Lib.hid (HF5.out.local HWX.out 0 (.int .i64 16))
   have HXX6 : Hid (Loc w11 R10 X [.int .i64 16, .int .i64 ln, .int .i64 0, .string (ofL []), .slice none 0 0]) := Lib.hid (by rw [hw]; exact HXX5.out.set 0 (.int .i64 16) (by simp))
   rw [← hw] at HP6 HF6 ⊢
   clear HP5 HF5 HXX5 hw
   obtain ⟨x, s12, hm, h⟩ := bind_out HM.out
   have NC := Lib.hid (EX _ _ _ _ _ hm HP6.out)
   replace HM := Lib.hid h
   clear h hm
   go_wp2_with fail
   refine NC.out.mono ?_
   rintro e w13 ⟨rfl, R14, hp, hf⟩
   have HP7 := Lib.hid hp
   have HF7 := Lib.hid (HF6.out.trans hf)
   have HXX7 := Lib.hid (HXX6.out.keep hf)
   clear HP6 HF6 HXX6 hp hf NC 
   have zX0 := HXX7.out.cells 0 _ rfl
   have zX1 := HXX7.out.cells 1 _ rfl
   have zX2 := HXX7.out.cells 2 _ rfl
   have zX3 := HXX7.out.cells 3 _ rfl
   have zX4 := HXX7.out.cells 4 _ rfl
   obtain ⟨y, s15, hm, h⟩ := bind_out HM.out
   have NA := Lib.hid (BL _ _ _ _ _ hm (HP7.out.keep ((Keeps.refl (fun _ => False) w13).drew)))
   replace HM := Lib.hid h
   clear h hm
   go_wp2_with fail
   refine wp_region_held_drew (S := fun w' => w'.cell? ⟨X, 0, none⟩ = some (.int .i64 16) ∧ w'.cell? ⟨X, 1, none⟩ = some (.int .i64 ln) ∧ w'.cell? ⟨X, 2, none⟩ = some (.int .i64 0) ∧ w'.cell? ⟨X, 3, none⟩ = some (.string (ofL [])) ∧ w'.cell? ⟨X, 4, none⟩ = some (.slice none 0 0)) (by kernel_rfl) (⟨zX0, zX1, zX2, zX3, zX4⟩) (fun hHeld => ?_)
   clear zX0 zX1 zX2 zX3 zX4
   have HP8 := Lib.hid (HP7.out.keep ((Keeps.refl (fun _ => False) w13).drew))
   have HF8 := Lib.hid (HF7.out.keeps ((Keeps.refl (fun _ => False) w13).drew))
   have HXX8 := Lib.hid (HXX7.out.keeps ((Keeps.refl (fun _ => False) w13).drew))
   clear HP7 HF7 HXX7 
   refine wpAnyH_take (i := 0) (v := ?_) rfl (by kernel_rfl) (by kernel_rfl) (by kernel_rfl) (fun _ _ _ h => h) (Or.inl ⟨by rfl, ?_⟩) (by assumption) ?_
   rotate_left
   ·(intro w' hSw; (try dsimp only at hSw); obtain ⟨y0, y1, y2, y3, y4⟩ := hSw; go_simp; (try (with_reducible rfl)))
   simp only [Act.put, List.getElem_toArray, List.getElem_cons_succ, List.getElem_cons_zero, List.setIfInBounds_toArray, List.set_cons_succ, List.set_cons_zero]
   refine wpAnyH_take (i := 1) (v := ?_) rfl (by kernel_rfl) (by kernel_rfl) (by kernel_rfl) (fun _ _ _ h => h) (Or.inl ⟨by rfl, ?_⟩) (by assumption) ?_
   rotate_left
   ·(intro w' hSw; (try dsimp only at hSw); obtain ⟨y0, y1, y2, y3, y4⟩ := hSw; go_simp; (try (with_reducible rfl)))
   simp only [Act.put, List.getElem_toArray, List.getElem_cons_succ, List.getElem_cons_zero, List.setIfInBounds_toArray, List.set_cons_succ, List.set_cons_zero]
   refine wpAnyH_take (i := 2) (v := ?_) rfl (by kernel_rfl) (by kernel_rfl) (by kernel_rfl) (fun _ _ _ h => h) (Or.inl ⟨by rfl, ?_⟩) (by assumption) ?_
   rotate_left
   ·(intro w' hSw; (try dsimp only at hSw); obtain ⟨y0, y1, y2, y3, y4⟩ := hSw; go_simp; (try (with_reducible rfl)))
   simp only [Act.put, List.getElem_toArray, List.getElem_cons_succ, List.getElem_cons_zero, List.setIfInBounds_toArray, List.set_cons_succ, List.set_cons_zero]
   refine wpAnyH_take (i := 3) (v := ?_) rfl (by kernel_rfl) (by kernel_rfl) (by kernel_rfl) (fun _ _ _ h => h) (Or.inl ⟨by rfl, ?_⟩) (by assumption) ?_
   rotate_left
   ·(intro w' hSw; (try dsimp only at hSw); obtain ⟨y0, y1, y2, y3, y4⟩ := hSw; go_simp; (try (with_reducible rfl)))
   simp only [Act.put, List.getElem_toArray, List.getElem_cons_succ, List.getElem_cons_zero, List.setIfInBounds_toArray, List.set_cons_succ, List.set_cons_zero]
   refine wpAnyH_ready (rs := [4]) (by kernel_rfl) (by simp) ?_
   refine AllReadyH.cons rfl (fun K hK => ?_) AllReadyH.nil
   go_simp
   (go_at_call 66; refine NA.out.mono ?_; rintro e w16 ⟨rfl, R17, hp, hf⟩; (try go_simp))
   have HP9 := Lib.hid hp
   have HF9 := Lib.hid (HF8.out.trans hf)
   have HXX9 := Lib.hid (HXX8.out.keep hf)
   clear HP8 HF8 HXX8 hp hf NA
   refine hK.out _ _ ⟨HXX9.out.cells 0 _ rfl, HXX9.out.cells 1 _ rfl, HXX9.out.cells 2 _ rfl, HXX9.out.cells 3 _ rfl, HXX9.out.cells 4 _ rfl⟩ (fun hHeld => ?_)
   clear hK K
   refine wpAnyH_ready (rs := [5]) (by kernel_rfl) (by simp) ?_
   refine AllReadyH.cons rfl (fun K hK => ?_) AllReadyH.nil
   go_simp
   have ZA := Lib.hid (HXX9.out.keeps (Keeps.one w16 (.cells #[.int .i64 x, .int .i64 y] 3)))
   refine hK.out _ _ ⟨ZA.out.cells 0 _ rfl, ZA.out.cells 1 _ rfl, ZA.out.cells 2 _ rfl, ZA.out.cells 3 _ rfl, ZA.out.cells 4 _ rfl⟩ (fun hHeld => ?_)
   clear hK K ZA
   refine wpAnyH_ready (rs := [6]) (by kernel_rfl) (by simp) ?_
   refine AllReadyH.cons rfl (fun K hK => ?_) AllReadyH.nil
   have NB := Lib.hid ((nodeC P src T).two HP9.out (16) (ln) (0) ([]) x y HM.out)
   go_simp
   (go_at_call 97; refine NB.out.mono ?_; rintro e w18 ⟨rfl, R19, hp, hf⟩; (try go_simp))
   have HP10 := Lib.hid hp
   have HF10 := Lib.hid (HF9.out.trans hf)
   have HXX10 := Lib.hid (HXX9.out.keep hf)
   clear HP9 HF9 HXX9 hp hf NB
   refine hK.out _ _ ⟨HXX10.out.cells 0 _ rfl, HXX10.out.cells 1 _ rfl, HXX10.out.cells 2 _ rfl, HXX10.out.cells 3 _ rfl, HXX10.out.cells 4 _ rfl⟩ (fun hHeld => ?_)
   clear hK K
   refine wpAnyH_take (i := 7) (v := ?_) rfl (by kernel_rfl) (by kernel_rfl) (by kernel_rfl) (fun _ _ _ h => h) (Or.inl ⟨by rfl, ?_⟩) (by assumption) ?_
   rotate_left
   ·(intro w' hSw; (try dsimp only at hSw); obtain ⟨y0, y1, y2, y3, y4⟩ := hSw; go_simp; (try (with_reducible rfl)))
   simp only [Act.put, List.getElem_toArray, List.getElem_cons_succ, List.getElem_cons_zero, List.setIfInBounds_toArray, List.set_cons_succ, List.set_cons_zero]
   refine wpAnyH_done (by kernel_rfl) ?_ _
   clear hHeld
   go_wp2_with fail
   go_ret
   exact ⟨rfl, _, HP10.out, HF10.out⟩
  | false =>
   have h := HM.out
   rw [if_neg (by decide)] at h
   replace HM := Lib.hid h
   clear h
   go_wp2_with fail
   refine IC.out.mono ?_
   rintro e w20 ⟨rfl, k1⟩
   have HP4 := Lib.hid (HP3.out.keep k1)
   have HF4 := Lib.hid (HF3.out.keeps k1)
   have HXX4 := Lib.hid (HXX3.out.keeps k1)
   clear HP3 HF3 HXX3 IC k1 
   obtain ⟨b, hb, h⟩ := ask_out HM.out
   have IC := Lib.hid (calls_at HP4.out hb)
   replace HM := Lib.hid h
   clear h hb
   cases b with
   | true =>
    have h := HM.out
    rw [if_pos rfl] at h
    replace HM := Lib.hid h
    clear h
    go_wp2_with fail
    refine IC.out.mono ?_
    rintro e w21 ⟨rfl, k1⟩
    have HP5 := Lib.hid (HP4.out.keep k1)
    have HF5 := Lib.hid (HF4.out.keeps k1)
    have HXX5 := Lib.hid (HXX4.out.keeps k1)
    clear HP4 HF4 HXX4 IC k1 
    have zX0 := HXX5.out.cells 0 _ rfl
    have gX0 := HXX5.out.fz 0
    go_upto_region 11 with fail
    clear zX0 gX0
    obtain ⟨w22, hw⟩ : ∃ w22, w22 = w21.setCell ⟨X, 0, none⟩ (.int .i64 13) := ⟨_, rfl⟩
    have HP6 := Lib.hid (HP5.out.local HXX5.out.out (Nat.lt_of_lt_of_le HLO.out HWX.out) 0 (.int .i64 13))
    have HF6 := Lib.hid (HF5.out.local HWX.out 0 (.int .i64 13))
    have HXX6 : Hid (Loc w22 R X [.int .i64 13, .int .i64 ln, .int .i64 0, .string (ofL []), .slice none 0 0]) := Lib.hid (by rw [hw]; exact HXX5.out.set 0 (.int .i64 13) (by simp))
    rw [← hw] at HP6 HF6 ⊢
    clear HP5 HF5 HXX5 hw
    have zX0 := HXX6.out.cells 0 _ rfl
    have zX1 := HXX6.out.cells 1 _ rfl
    have zX2 := HXX6.out.cells 2 _ rfl
    have zX3 := HXX6.out.cells 3 _ rfl
    have zX4 := HXX6.out.cells 4 _ rfl
    obtain ⟨x, s23, hm, h⟩ := bind_out HM.out
    have NA := Lib.hid (CALL _ _ _ _ _ hm (HP6.out.keep ((Keeps.refl (fun _ => False) w22).drew)))
    replace HM := Lib.hid h
    clear h hm
    go_wp2_with fail
    refine wp_region_held_drew (S := fun w' => w'.cell? ⟨X, 0, none⟩ = some (.int .i64 13) ∧ w'.cell? ⟨X, 1, none⟩ = some (.int .i64 ln) ∧ w'.cell? ⟨X, 2, none⟩ = some (.int .i64 0) ∧ w'.cell? ⟨X, 3, none⟩ = some (.string (ofL [])) ∧ w'.cell? ⟨X, 4, none⟩ = some (.slice none 0 0)) (by kernel_rfl) (⟨zX0, zX1, zX2, zX3, zX4⟩) (fun hHeld => ?_)
    clear zX0 zX1 zX2 zX3 zX4
    have HP7 := Lib.hid (HP6.out.keep ((Keeps.refl (fun _ => False) w22).drew))
    have HF7 := Lib.hid (HF6.out.keeps ((Keeps.refl (fun _ => False) w22).drew))
    have HXX7 := Lib.hid (HXX6.out.keeps ((Keeps.refl (fun _ => False) w22).drew))
    clear HP6 HF6 HXX6 
    refine wpAnyH_take (i := 0) (v := ?_) rfl (by kernel_rfl) (by kernel_rfl) (by kernel_rfl) (fun _ _ _ h => h) (Or.inl ⟨by rfl, ?_⟩) (by assumption) ?_
    rotate_left
    ·(intro w' hSw; (try dsimp only at hSw); obtain ⟨y0, y1, y2, y3, y4⟩ := hSw; go_simp; (try (with_reducible rfl)))
    simp only [Act.put, List.getElem_toArray, List.getElem_cons_succ, List.getElem_cons_zero, List.setIfInBounds_toArray, List.set_cons_succ, List.set_cons_zero]
    refine wpAnyH_take (i := 1) (v := ?_) rfl (by kernel_rfl) (by kernel_rfl) (by kernel_rfl) (fun _ _ _ h => h) (Or.inl ⟨by rfl, ?_⟩) (by assumption) ?_
    rotate_left
    ·(intro w' hSw; (try dsimp only at hSw); obtain ⟨y0, y1, y2, y3, y4⟩ := hSw; go_simp; (try (with_reducible rfl)))
    simp only [Act.put, List.getElem_toArray, List.getElem_cons_succ, List.getElem_cons_zero, List.setIfInBounds_toArray, List.set_cons_succ, List.set_cons_zero]
    refine wpAnyH_take (i := 2) (v := ?_) rfl (by kernel_rfl) (by kernel_rfl) (by kernel_rfl) (fun _ _ _ h => h) (Or.inl ⟨by rfl, ?_⟩) (by assumption) ?_
    rotate_left
    ·(intro w' hSw; (try dsimp only at hSw); obtain ⟨y0, y1, y2, y3, y4⟩ := hSw; go_simp; (try (with_reducible rfl)))
    simp only [Act.put, List.getElem_toArray, List.getElem_cons_succ, List.getElem_cons_zero, List.setIfInBounds_toArray, List.set_cons_succ, List.set_cons_zero]
    refine wpAnyH_ready (rs := [3]) (by kernel_rfl) (by simp) ?_
    refine AllReadyH.cons rfl (fun K hK => ?_) AllReadyH.nil
    go_simp
    (go_at_call 122; refine NA.out.mono ?_; rintro e w24 ⟨rfl, R25, hp, hf⟩; (try go_simp))
    have HP8 := Lib.hid hp
    have HF8 := Lib.hid (HF7.out.trans hf)
    have HXX8 := Lib.hid (HXX7.out.keep hf)
    clear HP7 HF7 HXX7 hp hf NA
    refine hK.out _ _ ⟨HXX8.out.cells 0 _ rfl, HXX8.out.cells 1 _ rfl, HXX8.out.cells 2 _ rfl, HXX8.out.cells 3 _ rfl, HXX8.out.cells 4 _ rfl⟩ (fun hHeld => ?_)
    clear hK K
    refine wpAnyH_ready (rs := [4]) (by kernel_rfl) (by simp) ?_
    refine AllReadyH.cons rfl (fun K hK => ?_) AllReadyH.nil
    go_simp
    have ZA := Lib.hid (HXX8.out.keeps (Keeps.one w24 (.cells #[.int .i64 x] 3)))
    refine hK.out _ _ ⟨ZA.out.cells 0 _ rfl, ZA.out.cells 1 _ rfl, ZA.out.cells 2 _ rfl, ZA.out.cells 3 _ rfl, ZA.out.cells 4 _ rfl⟩ (fun hHeld => ?_)
    clear hK K ZA
    refine wpAnyH_ready (rs := [5]) (by kernel_rfl) (by simp) ?_
    refine AllReadyH.cons rfl (fun K hK => ?_) AllReadyH.nil
    have NB := Lib.hid ((endedC P src T).one HP8.out (13) (ln) (0) ([]) x HM.out)
    go_simp
    (go_at_call 121; refine NB.out.mono ?_; rintro e w26 ⟨rfl, R27, hp, hf⟩; (try go_simp))
    have HP9 := Lib.hid hp
    have HF9 := Lib.hid (HF8.out.trans hf)
    have HXX9 := Lib.hid (HXX8.out.keep hf)
    clear HP8 HF8 HXX8 hp hf NB
    refine hK.out _ _ ⟨HXX9.out.cells 0 _ rfl, HXX9.out.cells 1 _ rfl, HXX9.out.cells 2 _ rfl, HXX9.out.cells 3 _ rfl, HXX9.out.cells 4 _ rfl⟩ (fun hHeld => ?_)
    clear hK K
    refine wpAnyH_take (i := 6) (v := ?_) rfl (by kernel_rfl) (by kernel_rfl) (by kernel_rfl) (fun _ _ _ h => h) (Or.inl ⟨by rfl, ?_⟩) (by assumption) ?_
    rotate_left
    ·(intro w' hSw; (try dsimp only at hSw); obtain ⟨y0, y1, y2, y3, y4⟩ := hSw; go_simp; (try (with_reducible rfl)))
    simp only [Act.put, List.getElem_toArray, List.getElem_cons_succ, List.getElem_cons_zero, List.setIfInBounds_toArray, List.set_cons_succ, List.set_cons_zero]
    refine wpAnyH_done (by kernel_rfl) ?_ _
    clear hHeld
    go_wp2_with fail
    go_ret
    exact ⟨rfl, _, HP9.out, HF9.out⟩
   | false =>
    have h := HM.out
    rw [if_neg (by decide)] at h
    replace HM := Lib.hid h
    clear h
    go_wp2_with fail
    refine IC.out.mono ?_
    rintro e w28 ⟨rfl, k1⟩
    have HP5 := Lib.hid (HP4.out.keep k1)
    have HF5 := Lib.hid (HF4.out.keeps k1)
    have HXX5 := Lib.hid (HXX4.out.keeps k1)
    clear HP4 HF4 HXX4 IC k1 
    obtain ⟨b, hb, h⟩ := ask_out HM.out
    have IC := Lib.hid (is_at1 HP5.out ({ data := #[112, 114, 105, 110, 116] }) hb)
    replace HM := Lib.hid h
    clear h hb
    cases b with
    | true =>
     have h := HM.out
     rw [if_pos rfl] at h
     replace HM := Lib.hid h
     clear h
     go_wp2_with fail
     refine IC.out.mono ?_
     rintro e w29 ⟨rfl, k1⟩
     have HP6 := Lib.hid (HP5.out.keep k1)
     have HF6 := Lib.hid (HF5.out.keeps k1)
     have HXX6 := Lib.hid (HXX5.out.keeps k1)
     clear HP5 HF5 HXX5 IC k1 
     obtain ⟨s30, e1, h⟩ := mod_out HM.out
     have NC := Lib.hid (next_at HP6.out e1)
     replace HM := Lib.hid h
     clear h e1
     go_wp2_with fail
     refine NC.out.mono ?_
     rintro e w31 ⟨rfl, R32, hp, hf⟩
     have HP7 := Lib.hid hp
     have HF7 := Lib.hid (HF6.out.trans hf)
     have HXX7 := Lib.hid (HXX6.out.keep hf)
     clear HP6 HF6 HXX6 hp hf NC 
     have zX0 := HXX7.out.cells 0 _ rfl
     have gX0 := HXX7.out.fz 0
     go_upto_region 15 with fail
     clear zX0 gX0
     obtain ⟨w33, hw⟩ : ∃ w33, w33 = w31.setCell ⟨X, 0, none⟩ (.int .i64 14) := ⟨_, rfl⟩
     have HP8 := Lib.hid (HP7.out.local HXX7.out.out (Nat.lt_of_lt_of_le HLO.out HWX.out) 0 (.int .i64 14))
     have HF8 := Lib.hid (HF7.out.local HWX.out 0 (.int .i64 14))
     have HXX8 : Hid (Loc w33 R32 X [.int .i64 14, .int .i64 ln, .int .i64 0, .string (ofL []), .slice none 0 0]) := Lib.hid (by rw [hw]; exact HXX7.out.set 0 (.int .i64 14) (by simp))
     rw [← hw] at HP8 HF8 ⊢
     clear HP7 HF7 HXX7 hw
     have zX0 := HXX8.out.cells 0 _ rfl
     have zX1 := HXX8.out.cells 1 _ rfl
     have zX2 := HXX8.out.cells 2 _ rfl
     have zX3 := HXX8.out.cells 3 _ rfl
     have zX4 := HXX8.out.cells 4 _ rfl
     obtain ⟨x, s34, hm, h⟩ := bind_out HM.out
     have NA := Lib.hid (EX _ _ _ _ _ hm (HP8.out.keep ((Keeps.refl (fun _ => False) w33).drew)))
     replace HM := Lib.hid h
     clear h hm
     go_wp2_with fail
     refine wp_region_held_drew (S := fun w' => w'.cell? ⟨X, 0, none⟩ = some (.int .i64 14) ∧ w'.cell? ⟨X, 1, none⟩ = some (.int .i64 ln) ∧ w'.cell? ⟨X, 2, none⟩ = some (.int .i64 0) ∧ w'.cell? ⟨X, 3, none⟩ = some (.string (ofL [])) ∧ w'.cell? ⟨X, 4, none⟩ = some (.slice none 0 0)) (by kernel_rfl) (⟨zX0, zX1, zX2, zX3, zX4⟩) (fun hHeld => ?_)
     clear zX0 zX1 zX2 zX3 zX4
     have HP9 := Lib.hid (HP8.out.keep ((Keeps.refl (fun _ => False) w33).drew))
     have HF9 := Lib.hid (HF8.out.keeps ((Keeps.refl (fun _ => False) w33).drew))
     have HXX9 := Lib.hid (HXX8.out.keeps ((Keeps.refl (fun _ => False) w33).drew))
     clear HP8 HF8 HXX8 
     refine wpAnyH_take (i := 0) (v := ?_) rfl (by kernel_rfl) (by kernel_rfl) (by kernel_rfl) (fun _ _ _ h => h) (Or.inl ⟨by rfl, ?_⟩) (by assumption) ?_
     rotate_left
     ·(intro w' hSw; (try dsimp only at hSw); obtain ⟨y0, y1, y2, y3, y4⟩ := hSw; go_simp; (try (with_reducible rfl)))
     simp only [Act.put, List.getElem_toArray, List.getElem_cons_succ, List.getElem_cons_zero, List.setIfInBounds_toArray, List.set_cons_succ, List.set_cons_zero]
     refine wpAnyH_take (i := 1) (v := ?_) rfl (by kernel_rfl) (by kernel_rfl) (by kernel_rfl) (fun _ _ _ h => h) (Or.inl ⟨by rfl, ?_⟩) (by assumption) ?_
     rotate_left
     ·(intro w' hSw; (try dsimp only at hSw); obtain ⟨y0, y1, y2, y3, y4⟩ := hSw; go_simp; (try (with_reducible rfl)))
     simp only [Act.put, List.getElem_toArray, List.getElem_cons_succ, List.getElem_cons_zero, List.setIfInBounds_toArray, List.set_cons_succ, List.set_cons_zero]
     refine wpAnyH_take (i := 2) (v := ?_) rfl (by kernel_rfl) (by kernel_rfl) (by kernel_rfl) (fun _ _ _ h => h) (Or.inl ⟨by rfl, ?_⟩) (by assumption) ?_
     rotate_left
     ·(intro w' hSw; (try dsimp only at hSw); obtain ⟨y0, y1, y2, y3, y4⟩ := hSw; go_simp; (try (with_reducible rfl)))
     simp only [Act.put, List.getElem_toArray, List.getElem_cons_succ, List.getElem_cons_zero, List.setIfInBounds_toArray, List.set_cons_succ, List.set_cons_zero]
     refine wpAnyH_ready (rs := [3]) (by kernel_rfl) (by simp) ?_
     refine AllReadyH.cons rfl (fun K hK => ?_) AllReadyH.nil
     go_simp
     (go_at_call 119; refine NA.out.mono ?_; rintro e w35 ⟨rfl, R36, hp, hf⟩; (try go_simp))
     have HP10 := Lib.hid hp
     have HF10 := Lib.hid (HF9.out.trans hf)
     have HXX10 := Lib.hid (HXX9.out.keep hf)
     clear HP9 HF9 HXX9 hp hf NA
     refine hK.out _ _ ⟨HXX10.out.cells 0 _ rfl, HXX10.out.cells 1 _ rfl, HXX10.out.cells 2 _ rfl, HXX10.out.cells 3 _ rfl, HXX10.out.cells 4 _ rfl⟩ (fun hHeld => ?_)
     clear hK K
     refine wpAnyH_ready (rs := [4]) (by kernel_rfl) (by simp) ?_
     refine AllReadyH.cons rfl (fun K hK => ?_) AllReadyH.nil
     go_simp
     have ZA := Lib.hid (HXX10.out.keeps (Keeps.one w35 (.cells #[.int .i64 x] 3)))
     refine hK.out _ _ ⟨ZA.out.cells 0 _ rfl, ZA.out.cells 1 _ rfl, ZA.out.cells 2 _ rfl, ZA.out.cells 3 _ rfl, ZA.out.cells 4 _ rfl⟩ (fun hHeld => ?_)
     clear hK K ZA
     refine wpAnyH_ready (rs := [5]) (by kernel_rfl) (by simp) ?_
     refine AllReadyH.cons rfl (fun K hK => ?_) AllReadyH.nil
     have NB := Lib.hid ((endedC P src T).one HP10.out (14) (ln) (0) ([]) x HM.out)
     go_simp
     (go_at_call 121; refine NB.out.mono ?_; rintro e w37 ⟨rfl, R38, hp, hf⟩; (try go_simp))
     have HP11 := Lib.hid hp
     have HF11 := Lib.hid (HF10.out.trans hf)
     have HXX11 := Lib.hid (HXX10.out.keep hf)
     clear HP10 HF10 HXX10 hp hf NB
     refine hK.out _ _ ⟨HXX11.out.cells 0 _ rfl, HXX11.out.cells 1 _ rfl, HXX11.out.cells 2 _ rfl, HXX11.out.cells 3 _ rfl, HXX11.out.cells 4 _ rfl⟩ (fun hHeld => ?_)
     clear hK K
     refine wpAnyH_take (i := 6) (v := ?_) rfl (by kernel_rfl) (by kernel_rfl) (by kernel_rfl) (fun _ _ _ h => h) (Or.inl ⟨by rfl, ?_⟩) (by assumption) ?_
     rotate_left
     ·(intro w' hSw; (try dsimp only at hSw); obtain ⟨y0, y1, y2, y3, y4⟩ := hSw; go_simp; (try (with_reducible rfl)))
     simp only [Act.put, List.getElem_toArray, List.getElem_cons_succ, List.getElem_cons_zero, List.setIfInBounds_toArray, List.set_cons_succ, List.set_cons_zero]
     refine wpAnyH_done (by kernel_rfl) ?_ _
     clear hHeld
     go_wp2_with fail
     go_ret
     exact ⟨rfl, _, HP11.out, HF11.out⟩
    | false =>
     have h := HM.out
     rw [if_neg (by decide)] at h
     replace HM := Lib.hid h
     clear h
     go_wp2_with fail
     refine IC.out.mono ?_
     rintro e w39 ⟨rfl, k1⟩
     have HP6 := Lib.hid (HP5.out.keep k1)
     have HF6 := Lib.hid (HF5.out.keeps k1)
     have HXX6 := Lib.hid (HXX5.out.keeps k1)
     clear HP5 HF5 HXX5 IC k1 
     obtain ⟨b, hb, h⟩ := ask_out HM.out
     have IC := Lib.hid (is_at1 HP6.out ({ data := #[114, 101, 116, 117, 114, 110] }) hb)
     replace HM := Lib.hid h
     clear h hb
     cases b with
     | true =>
      have h := HM.out
      rw [if_pos rfl] at h
      replace HM := Lib.hid h
      clear h
      go_wp2_with fail
      refine IC.out.mono ?_
      rintro e w40 ⟨rfl, k1⟩
      have HP7 := Lib.hid (HP6.out.keep k1)
      have HF7 := Lib.hid (HF6.out.keeps k1)
      have HXX7 := Lib.hid (HXX6.out.keeps k1)
      clear HP6 HF6 HXX6 IC k1 
      obtain ⟨s41, e1, h⟩ := mod_out HM.out
      have NC := Lib.hid (next_at HP7.out e1)
      replace HM := Lib.hid h
      clear h e1
      go_wp2_with fail
      refine NC.out.mono ?_
      rintro e w42 ⟨rfl, R43, hp, hf⟩
      have HP8 := Lib.hid hp
      have HF8 := Lib.hid (HF7.out.trans hf)
      have HXX8 := Lib.hid (HXX7.out.keep hf)
      clear HP7 HF7 HXX7 hp hf NC 
      have zX0 := HXX8.out.cells 0 _ rfl
      have gX0 := HXX8.out.fz 0
      go_upto_region 19 with fail
      clear zX0 gX0
      obtain ⟨w44, hw⟩ : ∃ w44, w44 = w42.setCell ⟨X, 0, none⟩ (.int .i64 17) := ⟨_, rfl⟩
      have HP9 := Lib.hid (HP8.out.local HXX8.out.out (Nat.lt_of_lt_of_le HLO.out HWX.out) 0 (.int .i64 17))
      have HF9 := Lib.hid (HF8.out.local HWX.out 0 (.int .i64 17))
      have HXX9 : Hid (Loc w44 R43 X [.int .i64 17, .int .i64 ln, .int .i64 0, .string (ofL []), .slice none 0 0]) := Lib.hid (by rw [hw]; exact HXX8.out.set 0 (.int .i64 17) (by simp))
      rw [← hw] at HP9 HF9 ⊢
      clear HP8 HF8 HXX8 hw
      obtain ⟨b, hb, h⟩ := ask_out HM.out
      have IC := Lib.hid (is_at1 HP9.out ({ data := #[59] }) hb)
      replace HM := Lib.hid h
      clear h hb
      cases b with
      | true =>
       have h := HM.out
       rw [if_pos rfl] at h
       replace HM := Lib.hid h
       clear h
       go_wp2_with fail
       refine IC.out.mono ?_
       rintro e w45 ⟨rfl, k1⟩
       have HP10 := Lib.hid (HP9.out.keep k1)
       have HF10 := Lib.hid (HF9.out.keeps k1)
       have HXX10 := Lib.hid (HXX9.out.keeps k1)
       clear HP9 HF9 HXX9 IC k1 
       have NC := Lib.hid ((endedC P src T).nil HP10.out (17) (ln) (0) ([]) HM.out)
       have zX0 := HXX10.out.cells 0 _ rfl
       have zX1 := HXX10.out.cells 1 _ rfl
       have zX2 := HXX10.out.cells 2 _ rfl
       have zX3 := HXX10.out.cells 3 _ rfl
       have zX4 := HXX10.out.cells 4 _ rfl
       go_wp2_with fail
       refine NC.out.mono ?_
       rintro e w46 ⟨rfl, R47, hp, hf⟩
       have HP11 := Lib.hid hp
       have HF11 := Lib.hid (HF10.out.trans hf)
       have HXX11 := Lib.hid (HXX10.out.keep hf)
       clear HP10 HF10 HXX10 hp hf NC zX0 zX1 zX2 zX3 zX4
       go_wp2_with fail
       go_ret
       exact ⟨rfl, _, HP11.out, HF11.out⟩
      | false =>
       have h := HM.out
       rw [if_neg (by decide)] at h
       replace HM := Lib.hid h
       clear h
       go_wp2_with fail
       refine IC.out.mono ?_
       rintro e w48 ⟨rfl, k1⟩
       have HP10 := Lib.hid (HP9.out.keep k1)
       have HF10 := Lib.hid (HF9.out.keeps k1)
       have HXX10 := Lib.hid (HXX9.out.keeps k1)
       clear HP9 HF9 HXX9 IC k1 
       have zX0 := HXX10.out.cells 0 _ rfl
       have zX1 := HXX10.out.cells 1 _ rfl
       have zX2 := HXX10.out.cells 2 _ rfl
       have zX3 := HXX10.out.cells 3 _ rfl
       have zX4 := HXX10.out.cells 4 _ rfl
       obtain ⟨x, s49, hm, h⟩ := bind_out HM.out
       have NA := Lib.hid (EX _ _ _ _ _ hm (HP10.out.keep ((Keeps.refl (fun _ => False) w48).drew)))
       replace HM := Lib.hid h
       clear h hm
       go_wp2_with fail
       refine wp_region_held_drew (S := fun w' => w'.cell? ⟨X, 0, none⟩ = some (.int .i64 17) ∧ w'.cell? ⟨X, 1, none⟩ = some (.int .i64 ln) ∧ w'.cell? ⟨X, 2, none⟩ = some (.int .i64 0) ∧ w'.cell? ⟨X, 3, none⟩ = some (.string (ofL [])) ∧ w'.cell? ⟨X, 4, none⟩ = some (.slice none 0 0)) (by kernel_rfl) (⟨zX0, zX1, zX2, zX3, zX4⟩) (fun hHeld => ?_)
       clear zX0 zX1 zX2 zX3 zX4
       have HP11 := Lib.hid (HP10.out.keep ((Keeps.refl (fun _ => False) w48).drew))
       have HF11 := Lib.hid (HF10.out.keeps ((Keeps.refl (fun _ => False) w48).drew))
       have HXX11 := Lib.hid (HXX10.out.keeps ((Keeps.refl (fun _ => False) w48).drew))
       clear HP10 HF10 HXX10 
       refine wpAnyH_take (i := 0) (v := ?_) rfl (by kernel_rfl) (by kernel_rfl) (by kernel_rfl) (fun _ _ _ h => h) (Or.inl ⟨by rfl, ?_⟩) (by assumption) ?_
       rotate_left
       ·(intro w' hSw; (try dsimp only at hSw); obtain ⟨y0, y1, y2, y3, y4⟩ := hSw; go_simp; (try (with_reducible rfl)))
       simp only [Act.put, List.getElem_toArray, List.getElem_cons_succ, List.getElem_cons_zero, List.setIfInBounds_toArray, List.set_cons_succ, List.set_cons_zero]
       refine wpAnyH_take (i := 1) (v := ?_) rfl (by kernel_rfl) (by kernel_rfl) (by kernel_rfl) (fun _ _ _ h => h) (Or.inl ⟨by rfl, ?_⟩) (by assumption) ?_
       rotate_left
       ·(intro w' hSw; (try dsimp only at hSw); obtain ⟨y0, y1, y2, y3, y4⟩ := hSw; go_simp; (try (with_reducible rfl)))
       simp only [Act.put, List.getElem_toArray, List.getElem_cons_succ, List.getElem_cons_zero, List.setIfInBounds_toArray, List.set_cons_succ, List.set_cons_zero]
       refine wpAnyH_take (i := 2) (v := ?_) rfl (by kernel_rfl) (by kernel_rfl) (by kernel_rfl) (fun _ _ _ h => h) (Or.inl ⟨by rfl, ?_⟩) (by assumption) ?_
       rotate_left
       ·(intro w' hSw; (try dsimp only at hSw); obtain ⟨y0, y1, y2, y3, y4⟩ := hSw; go_simp; (try (with_reducible rfl)))
       simp only [Act.put, List.getElem_toArray, List.getElem_cons_succ, List.getElem_cons_zero, List.setIfInBounds_toArray, List.set_cons_succ, List.set_cons_zero]
       refine wpAnyH_ready (rs := [3]) (by kernel_rfl) (by simp) ?_
       refine AllReadyH.cons rfl (fun K hK => ?_) AllReadyH.nil
       go_simp
       (go_at_call 119; refine NA.out.mono ?_; rintro e w50 ⟨rfl, R51, hp, hf⟩; (try go_simp))
       have HP12 := Lib.hid hp
       have HF12 := Lib.hid (HF11.out.trans hf)
       have HXX12 := Lib.hid (HXX11.out.keep hf)
       clear HP11 HF11 HXX11 hp hf NA
       refine hK.out _ _ ⟨HXX12.out.cells 0 _ rfl, HXX12.out.cells 1 _ rfl, HXX12.out.cells 2 _ rfl, HXX12.out.cells 3 _ rfl, HXX12.out.cells 4 _ rfl⟩ (fun hHeld => ?_)
       clear hK K
       refine wpAnyH_ready (rs := [4]) (by kernel_rfl) (by simp) ?_
       refine AllReadyH.cons rfl (fun K hK => ?_) AllReadyH.nil
       go_simp
       have ZA := Lib.hid (HXX12.out.keeps (Keeps.one w50 (.cells #[.int .i64 x] 3)))
       refine hK.out _ _ ⟨ZA.out.cells 0 _ rfl, ZA.out.cells 1 _ rfl, ZA.out.cells 2 _ rfl, ZA.out.cells 3 _ rfl, ZA.out.cells 4 _ rfl⟩ (fun hHeld => ?_)
       clear hK K ZA
       refine wpAnyH_ready (rs := [5]) (by kernel_rfl) (by simp) ?_
       refine AllReadyH.cons rfl (fun K hK => ?_) AllReadyH.nil
       have NB := Lib.hid ((endedC P src T).one HP12.out (17) (ln) (0) ([]) x HM.out)
       go_simp
       (go_at_call 121; refine NB.out.mono ?_; rintro e w52 ⟨rfl, R53, hp, hf⟩; (try go_simp))
       have HP13 := Lib.hid hp
       have HF13 := Lib.hid (HF12.out.trans hf)
       have HXX13 := Lib.hid (HXX12.out.keep hf)
       clear HP12 HF12 HXX12 hp hf NB
       refine hK.out _ _ ⟨HXX13.out.cells 0 _ rfl, HXX13.out.cells 1 _ rfl, HXX13.out.cells 2 _ rfl, HXX13.out.cells 3 _ rfl, HXX13.out.cells 4 _ rfl⟩ (fun hHeld => ?_)
       clear hK K
       refine wpAnyH_take (i := 6) (v := ?_) rfl (by kernel_rfl) (by kernel_rfl) (by kernel_rfl) (fun _ _ _ h => h) (Or.inl ⟨by rfl, ?_⟩) (by assumption) ?_
       rotate_left
       ·(intro w' hSw; (try dsimp only at hSw); obtain ⟨y0, y1, y2, y3, y4⟩ := hSw; go_simp; (try (with_reducible rfl)))
       simp only [Act.put, List.getElem_toArray, List.getElem_cons_succ, List.getElem_cons_zero, List.setIfInBounds_toArray, List.set_cons_succ, List.set_cons_zero]
       refine wpAnyH_done (by kernel_rfl) ?_ _
       clear hHeld
       go_wp2_with fail
       go_ret
       exact ⟨rfl, _, HP13.out, HF13.out⟩
     | false =>
      have h := HM.out
      rw [if_neg (by decide)] at h
      replace HM := Lib.hid h
      clear h
      go_wp2_with fail
      refine IC.out.mono ?_
      rintro e w54 ⟨rfl, k1⟩
      have HP7 := Lib.hid (HP6.out.keep k1)
      have HF7 := Lib.hid (HF6.out.keeps k1)
      have HXX7 := Lib.hid (HXX6.out.keeps k1)
      clear HP6 HF6 HXX6 IC k1 
      obtain ⟨b, hb, h⟩ := ask_out HM.out
      have IC := Lib.hid (is_at1 HP7.out ({ data := #[108, 101, 116] }) hb)
      replace HM := Lib.hid h
      clear h hb
      cases b with
      | true =>
       have h := HM.out
       rw [if_pos rfl] at h
       replace HM := Lib.hid h
       clear h
       go_wp2_with fail
       refine IC.out.mono ?_
       rintro e w55 ⟨rfl, k1⟩
       have HP8 := Lib.hid (HP7.out.keep k1)
       have HF8 := Lib.hid (HF7.out.keeps k1)
       have HXX8 := Lib.hid (HXX7.out.keeps k1)
       clear HP7 HF7 HXX7 IC k1 
       obtain ⟨s56, e1, h⟩ := mod_out HM.out
       have NC := Lib.hid (next_at HP8.out e1)
       replace HM := Lib.hid h
       clear h e1
       go_wp2_with fail
       refine NC.out.mono ?_
       rintro e w57 ⟨rfl, R58, hp, hf⟩
       have HP9 := Lib.hid hp
       have HF9 := Lib.hid (HF8.out.trans hf)
       have HXX9 := Lib.hid (HXX8.out.keep hf)
       clear HP8 HF8 HXX8 hp hf NC 
       obtain ⟨x, ex, h⟩ := ask_out HM.out
       obtain ⟨s59, e1, h⟩ := mod_out h
       have NC := Lib.hid (name_at HP9.out e1 ex)
       replace HM := Lib.hid h
       clear h e1 ex
       go_wp2_with fail
       refine NC.out.mono ?_
       rintro e w60 ⟨rfl, R61, hp, hf⟩
       have HP10 := Lib.hid hp
       have HF10 := Lib.hid (HF9.out.trans hf)
       have HXX10 := Lib.hid (HXX9.out.keep hf)
       clear HP9 HF9 HXX9 hp hf NC 
       have zX0 := HXX10.out.cells 0 _ rfl
       have zX3 := HXX10.out.cells 3 _ rfl
       have gX0 := HXX10.out.fz 0
       have gX3 := HXX10.out.fz 3
       go_upto_region 25 with fail
       clear zX0 zX3 gX0 gX3
       obtain ⟨w62, hw⟩ : ∃ w62, w62 = w60.setCell ⟨X, 0, none⟩ (.int .i64 10) := ⟨_, rfl⟩
       have HP11 := Lib.hid (HP10.out.local HXX10.out.out (Nat.lt_of_lt_of_le HLO.out HWX.out) 0 (.int .i64 10))
       have HF11 := Lib.hid (HF10.out.local HWX.out 0 (.int .i64 10))
       have HXX11 : Hid (Loc w62 R61 X [.int .i64 10, .int .i64 ln, .int .i64 0, .string (ofL []), .slice none 0 0]) := Lib.hid (by rw [hw]; exact HXX10.out.set 0 (.int .i64 10) (by simp))
       rw [← hw] at HP11 HF11 ⊢
       clear HP10 HF10 HXX10 hw
       obtain ⟨w63, hw⟩ : ∃ w63, w63 = w62.setCell ⟨X, 3, none⟩ (.string (ofL x)) := ⟨_, rfl⟩
       have HP12 := Lib.hid (HP11.out.local HXX11.out.out (Nat.lt_of_lt_of_le HLO.out HWX.out) 3 (.string (ofL x)))
       have HF12 := Lib.hid (HF11.out.local HWX.out 3 (.string (ofL x)))
       have HXX12 : Hid (Loc w63 R61 X [.int .i64 10, .int .i64 ln, .int .i64 0, .string (ofL x), .slice none 0 0]) := Lib.hid (by rw [hw]; exact HXX11.out.set 3 (.string (ofL x)) (by simp))
       rw [← hw] at HP12 HF12 ⊢
       clear HP11 HF11 HXX11 hw
       obtain ⟨s64, e1, h⟩ := mod_out HM.out
       have NC := Lib.hid (want_at HP12.out ({ data := #[61] }) e1)
       replace HM := Lib.hid h
       clear h e1
       go_wp2_with fail
       refine NC.out.mono ?_
       rintro e w65 ⟨rfl, R66, hp, hf⟩
       have HP13 := Lib.hid hp
       have HF13 := Lib.hid (HF12.out.trans hf)
       have HXX13 := Lib.hid (HXX12.out.keep hf)
       clear HP12 HF12 HXX12 hp hf NC 
       have zX0 := HXX13.out.cells 0 _ rfl
       have zX1 := HXX13.out.cells 1 _ rfl
       have zX2 := HXX13.out.cells 2 _ rfl
       have zX3 := HXX13.out.cells 3 _ rfl
       have zX4 := HXX13.out.cells 4 _ rfl
       obtain ⟨y, s67, hm, h⟩ := bind_out HM.out
       have NA := Lib.hid (RIGHT _ _ _ _ _ hm (HP13.out.keep ((Keeps.refl (fun _ => False) w65).drew)))
       replace HM := Lib.hid h
       clear h hm
       go_wp2_with fail
       refine wp_region_held_drew (S := fun w' => w'.cell? ⟨X, 0, none⟩ = some (.int .i64 10) ∧ w'.cell? ⟨X, 1, none⟩ = some (.int .i64 ln) ∧ w'.cell? ⟨X, 2, none⟩ = some (.int .i64 0) ∧ w'.cell? ⟨X, 3, none⟩ = some (.string (ofL x)) ∧ w'.cell? ⟨X, 4, none⟩ = some (.slice none 0 0)) (by kernel_rfl) (⟨zX0, zX1, zX2, zX3, zX4⟩) (fun hHeld => ?_)
       clear zX0 zX1 zX2 zX3 zX4
       have HP14 := Lib.hid (HP13.out.keep ((Keeps.refl (fun _ => False) w65).drew))
       have HF14 := Lib.hid (HF13.out.keeps ((Keeps.refl (fun _ => False) w65).drew))
       have HXX14 := Lib.hid (HXX13.out.keeps ((Keeps.refl (fun _ => False) w65).drew))
       clear HP13 HF13 HXX13 
       refine wpAnyH_take (i := 0) (v := ?_) rfl (by kernel_rfl) (by kernel_rfl) (by kernel_rfl) (fun _ _ _ h => h) (Or.inl ⟨by rfl, ?_⟩) (by assumption) ?_
       rotate_left
       ·(intro w' hSw; (try dsimp only at hSw); obtain ⟨y0, y1, y2, y3, y4⟩ := hSw; go_simp; (try (with_reducible rfl)))
       simp only [Act.put, List.getElem_toArray, List.getElem_cons_succ, List.getElem_cons_zero, List.setIfInBounds_toArray, List.set_cons_succ, List.set_cons_zero]
       refine wpAnyH_take (i := 1) (v := ?_) rfl (by kernel_rfl) (by kernel_rfl) (by kernel_rfl) (fun _ _ _ h => h) (Or.inl ⟨by rfl, ?_⟩) (by assumption) ?_
       rotate_left
       ·(intro w' hSw; (try dsimp only at hSw); obtain ⟨y0, y1, y2, y3, y4⟩ := hSw; go_simp; (try (with_reducible rfl)))
       simp only [Act.put, List.getElem_toArray, List.getElem_cons_succ, List.getElem_cons_zero, List.setIfInBounds_toArray, List.set_cons_succ, List.set_cons_zero]
       refine wpAnyH_take (i := 2) (v := ?_) rfl (by kernel_rfl) (by kernel_rfl) (by kernel_rfl) (fun _ _ _ h => h) (Or.inl ⟨by rfl, ?_⟩) (by assumption) ?_
       rotate_left
       ·(intro w' hSw; (try dsimp only at hSw); obtain ⟨y0, y1, y2, y3, y4⟩ := hSw; go_simp; (try (with_reducible rfl)))
       simp only [Act.put, List.getElem_toArray, List.getElem_cons_succ, List.getElem_cons_zero, List.setIfInBounds_toArray, List.set_cons_succ, List.set_cons_zero]
       refine wpAnyH_ready (rs := [3]) (by kernel_rfl) (by simp) ?_
       refine AllReadyH.cons rfl (fun K hK => ?_) AllReadyH.nil
       go_simp
       (go_at_call 123; refine NA.out.mono ?_; rintro e w68 ⟨rfl, R69, hp, hf⟩; (try go_simp))
       have HP15 := Lib.hid hp
       have HF15 := Lib.hid (HF14.out.trans hf)
       have HXX15 := Lib.hid (HXX14.out.keep hf)
       clear HP14 HF14 HXX14 hp hf NA
       refine hK.out _ _ ⟨HXX15.out.cells 0 _ rfl, HXX15.out.cells 1 _ rfl, HXX15.out.cells 2 _ rfl, HXX15.out.cells 3 _ rfl, HXX15.out.cells 4 _ rfl⟩ (fun hHeld => ?_)
       clear hK K
       refine wpAnyH_ready (rs := [4]) (by kernel_rfl) (by simp) ?_
       refine AllReadyH.cons rfl (fun K hK => ?_) AllReadyH.nil
       go_simp
       have ZA := Lib.hid (HXX15.out.keeps (Keeps.one w68 (.cells #[.int .i64 y] 3)))
       refine hK.out _ _ ⟨ZA.out.cells 0 _ rfl, ZA.out.cells 1 _ rfl, ZA.out.cells 2 _ rfl, ZA.out.cells 3 _ rfl, ZA.out.cells 4 _ rfl⟩ (fun hHeld => ?_)
       clear hK K ZA
       refine wpAnyH_ready (rs := [5]) (by kernel_rfl) (by simp) ?_
       refine AllReadyH.cons rfl (fun K hK => ?_) AllReadyH.nil
       have NB := Lib.hid ((endedC P src T).one HP15.out (10) (ln) (0) (x) y HM.out)
       go_simp
       (go_at_call 121; refine NB.out.mono ?_; rintro e w70 ⟨rfl, R71, hp, hf⟩; (try go_simp))
       have HP16 := Lib.hid hp
       have HF16 := Lib.hid (HF15.out.trans hf)
       have HXX16 := Lib.hid (HXX15.out.keep hf)
       clear HP15 HF15 HXX15 hp hf NB
       refine hK.out _ _ ⟨HXX16.out.cells 0 _ rfl, HXX16.out.cells 1 _ rfl, HXX16.out.cells 2 _ rfl, HXX16.out.cells 3 _ rfl, HXX16.out.cells 4 _ rfl⟩ (fun hHeld => ?_)
       clear hK K
       refine wpAnyH_take (i := 6) (v := ?_) rfl (by kernel_rfl) (by kernel_rfl) (by kernel_rfl) (fun _ _ _ h => h) (Or.inl ⟨by rfl, ?_⟩) (by assumption) ?_
       rotate_left
       ·(intro w' hSw; (try dsimp only at hSw); obtain ⟨y0, y1, y2, y3, y4⟩ := hSw; go_simp; (try (with_reducible rfl)))
       simp only [Act.put, List.getElem_toArray, List.getElem_cons_succ, List.getElem_cons_zero, List.setIfInBounds_toArray, List.set_cons_succ, List.set_cons_zero]
       refine wpAnyH_done (by kernel_rfl) ?_ _
       clear hHeld
       go_wp2_with fail
       go_ret
       exact ⟨rfl, _, HP16.out, HF16.out⟩
      | false =>
       have h := HM.out
       rw [if_neg (by decide)] at h
       replace HM := Lib.hid h
       clear h
       go_wp2_with fail
       refine IC.out.mono ?_
       rintro e w72 ⟨rfl, k1⟩
       have HP8 := Lib.hid (HP7.out.keep k1)
       have HF8 := Lib.hid (HF7.out.keeps k1)
       have HXX8 := Lib.hid (HXX7.out.keeps k1)
       clear HP7 HF7 HXX7 IC k1 
       have zX0 := HXX8.out.cells 0 _ rfl
       have zX1 := HXX8.out.cells 1 _ rfl
       have zX2 := HXX8.out.cells 2 _ rfl
       have zX3 := HXX8.out.cells 3 _ rfl
       have zX4 := HXX8.out.cells 4 _ rfl
       have NC := Lib.hid (change_any EX RIGHT ln _ _ _ _ _ HM.out HP8.out)
       go_wp2_with fail
       refine NC.out.mono ?_
       rintro e w73 ⟨rfl, R74, hp, hf⟩
       have HP9 := Lib.hid hp
       have HF9 := Lib.hid (HF8.out.trans hf)
       have HXX9 := Lib.hid (HXX8.out.keep hf)
       clear HP8 HF8 HXX8 hp hf NC zX0 zX1 zX2 zX3 zX4
       go_wp2_with fail
       go_ret
       exact ⟨rfl, _, HP9.out, HF9.out⟩
end Go.Proofs.YtbhpnioggpgbhaaGreatDoor
