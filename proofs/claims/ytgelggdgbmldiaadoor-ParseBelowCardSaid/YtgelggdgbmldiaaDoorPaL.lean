/-
  Layer 2: inside, variable, ended. Written by an AI agent.
-/
import Derived.Test.YtgelggdgbmldiaaDoorPaK
import Derived.Deep.RegionHeld
namespace Go.Proofs.YtgelggdgbmldiaaDoor
open Go Go.RowKit Go.Shelf
set_option linter.unusedVariables false
set_option linter.unusedSimpArgs false

theorem pure_end {α : Type} {a r : α} {s s' : PS} (h : (pure a : PM α) s = some (r, s')) : r = a ∧ s' = s := by
  have := pure_out h
  injection this with h1 h2
  exact ⟨h1, h2⟩
theorem calls_at {P : Nat} {src : ByteArray} {T : List Tok} {R : Nat → Prop} {s : PS} {w : World} (h : Par w P src T R s) {b : Bool} (hb : b = callsS T s) :
    Calls Tryd.prog 113 #[.pointer (some ⟨P, 0, none⟩)] w fun e w' => e = .returned (.bool b) ∧ Keeps (fun _ => False) w w' := by
  rw [hb]
  exact calls_any h

set_option maxRecDepth 100000 in
set_option maxHeartbeats 16000000 in
theorem inside_any {P : Nat} {src : ByteArray} {T : List Tok} {ex : PM Int} (EX : ExC P src T 112 ex) (x y : ByteArray) (s : PS) (r : Int) (s' : PS) (R : Nat → Prop) (w : World) (h : insideM T ex x.data.toList y.data.toList s = some (r, s')) (hp : Par w P src T R s) :
    Calls Tryd.prog 163 #[.pointer (some ⟨P, 0, none⟩), .string x, .string y] w (Post P src T R w (.int .i64 r) s') := by
  have HP0 := Lib.hid hp
  have HF0 := Lib.hid (Fr.refl R w)
  have HLO := Lib.hid hp.lo
  have HM := Lib.hid h
  clear h hp
  go_enter Tryd.func163, Tryd.ntmps163
  obtain ⟨u, s1, hm, h⟩ := bind_out HM.out
  have NC := Lib.hid (open_any HP0.out (x) hm)
  replace HM := Lib.hid h
  clear h hm
  go_wp2_with fail
  refine NC.out.mono ?_
  rintro e w2 ⟨rfl, R3, hp, hf⟩
  have HP1 := Lib.hid hp
  have HF1 := Lib.hid (HF0.out.trans hf)
  clear HP0 HF0 hp hf NC 
  obtain ⟨a, s4, hm, h⟩ := bind_out HM.out
  have NC := Lib.hid (EX _ _ _ _ _ hm HP1.out)
  replace HM := Lib.hid h
  clear h hm
  go_wp2_with fail
  refine NC.out.mono ?_
  rintro e w5 ⟨rfl, R6, hp, hf⟩
  have HP2 := Lib.hid hp
  have HF2 := Lib.hid (HF1.out.trans hf)
  clear HP1 HF1 hp hf NC 
  obtain ⟨u, s7, hm, h⟩ := bind_out HM.out
  have NC := Lib.hid (shut_any HP2.out (y) hm)
  replace HM := Lib.hid h
  clear h hm
  go_wp2_with fail
  refine NC.out.mono ?_
  rintro e w8 ⟨rfl, R9, hp, hf⟩
  have HP3 := Lib.hid hp
  have HF3 := Lib.hid (HF2.out.trans hf)
  clear HP2 HF2 hp hf NC 
  obtain ⟨q1, q2⟩ := pure_end HM.out
  subst q1
  subst q2
  go_wp2_with fail
  go_ret
  exact ⟨rfl, _, HP3.out, HF3.out⟩

set_option maxRecDepth 100000 in
set_option maxHeartbeats 16000000 in
theorem variable_any {P : Nat} {src : ByteArray} {T : List Tok} {ex : PM Int} (EX : ExC P src T 112 ex) (ln : Int) (s : PS) (r : Int) (s' : PS) (R : Nat → Prop) (w : World) (h : variableM T ex ln s = some (r, s')) (hp : Par w P src T R s) :
    Calls Tryd.prog 164 #[.pointer (some ⟨P, 0, none⟩), .agg #[.int .i64 0, .int .i64 ln, .int .i64 0, .string (ofL []), .slice none 0 0]] w (Post P src T R w (.int .i64 r) s') := by
  have HP0 := Lib.hid hp
  have HF0 := Lib.hid (Fr.refl R w)
  have HLO := Lib.hid hp.lo
  have HM := Lib.hid h
  clear h hp
  go_enter Tryd.func164, Tryd.ntmps164
  go_upto_region 1 with fail
  have ka := Keeps.one w (.cells #[.int .i64 0, .int .i64 ln, .int .i64 0, .string (ofL []), .slice none 0 0] 33)
  obtain ⟨X, hX⟩ : ∃ X, X = w.heap.size := ⟨_, rfl⟩
  obtain ⟨w1, hw⟩ : ∃ w1, w1 = w.alloc (.cells #[.int .i64 0, .int .i64 ln, .int .i64 0, .string (ofL []), .slice none 0 0] 33) := ⟨_, rfl⟩
  have HXX1 : Hid (Loc w1 R X [.int .i64 0, .int .i64 ln, .int .i64 0, .string (ofL []), .slice none 0 0]) := Lib.hid (by rw [hw, hX]; exact Loc.new HP0.out.new [.int .i64 0, .int .i64 ln, .int .i64 0, .string (ofL []), .slice none 0 0] 33)
  have HWX : Hid (w.heap.size ≤ X) := Lib.hid (by rw [hX]; exact HF0.out.1.size)
  rw [← hX]
  rw [← hw] at ka ⊢
  have HP1 := Lib.hid (HP0.out.keep ka)
  have HF1 := Lib.hid (HF0.out.keeps ka)
  clear HP0 HF0 ka hw hX
  obtain ⟨x, ex, h⟩ := ask_out HM.out
  obtain ⟨s2, e1, h⟩ := mod_out h
  have NC := Lib.hid (name_at HP1.out e1 ex)
  replace HM := Lib.hid h
  clear h e1 ex
  go_wp2_with fail
  refine NC.out.mono ?_
  rintro e w3 ⟨rfl, R4, hp, hf⟩
  have HP2 := Lib.hid hp
  have HF2 := Lib.hid (HF1.out.trans hf)
  have HXX2 := Lib.hid (HXX1.out.keep hf)
  clear HP1 HF1 HXX1 hp hf NC 
  have zX0 := HXX2.out.cells 0 _ rfl
  have zX3 := HXX2.out.cells 3 _ rfl
  have gX0 := HXX2.out.fz 0
  have gX3 := HXX2.out.fz 3
  go_upto_region 2 with fail
  clear zX0 zX3 gX0 gX3
  obtain ⟨w5, hw⟩ : ∃ w5, w5 = w3.setCell ⟨X, 0, none⟩ (.int .i64 4) := ⟨_, rfl⟩
  have HP3 := Lib.hid (HP2.out.local HXX2.out.out (Nat.lt_of_lt_of_le HLO.out HWX.out) 0 (.int .i64 4))
  have HF3 := Lib.hid (HF2.out.local HWX.out 0 (.int .i64 4))
  have HXX3 : Hid (Loc w5 R4 X [.int .i64 4, .int .i64 ln, .int .i64 0, .string (ofL []), .slice none 0 0]) := Lib.hid (by rw [hw]; exact HXX2.out.set 0 (.int .i64 4) (by simp))
  rw [← hw] at HP3 HF3 ⊢
  clear HP2 HF2 HXX2 hw
  obtain ⟨w6, hw⟩ : ∃ w6, w6 = w5.setCell ⟨X, 3, none⟩ (.string (ofL x)) := ⟨_, rfl⟩
  have HP4 := Lib.hid (HP3.out.local HXX3.out.out (Nat.lt_of_lt_of_le HLO.out HWX.out) 3 (.string (ofL x)))
  have HF4 := Lib.hid (HF3.out.local HWX.out 3 (.string (ofL x)))
  have HXX4 : Hid (Loc w6 R4 X [.int .i64 4, .int .i64 ln, .int .i64 0, .string (ofL x), .slice none 0 0]) := Lib.hid (by rw [hw]; exact HXX3.out.set 3 (.string (ofL x)) (by simp))
  rw [← hw] at HP4 HF4 ⊢
  clear HP3 HF3 HXX3 hw
  obtain ⟨b, hb, h⟩ := ask_out HM.out
  have IC := Lib.hid (is_at1 HP4.out ({ data := #[91] }) hb)
  replace HM := Lib.hid h
  clear h hb
  cases b with
  | true =>
    have h := HM.out
    rw [if_pos rfl] at h
    replace HM := Lib.hid h
    clear h
    go_wp2_with fail
    refine IC.out.mono ?_
    rintro e w7 ⟨rfl, k1⟩
    have HP5 := Lib.hid (HP4.out.keep k1)
    have HF5 := Lib.hid (HF4.out.keeps k1)
    have HXX5 := Lib.hid (HXX4.out.keeps k1)
    clear HP4 HF4 HXX4 IC k1 
    have zX0 := HXX5.out.cells 0 _ rfl
    have gX0 := HXX5.out.fz 0
    go_upto_region 5 with fail
    clear zX0 gX0
    obtain ⟨w8, hw⟩ : ∃ w8, w8 = w7.setCell ⟨X, 0, none⟩ (.int .i64 5) := ⟨_, rfl⟩
    have HP6 := Lib.hid (HP5.out.local HXX5.out.out (Nat.lt_of_lt_of_le HLO.out HWX.out) 0 (.int .i64 5))
    have HF6 := Lib.hid (HF5.out.local HWX.out 0 (.int .i64 5))
    have HXX6 : Hid (Loc w8 R4 X [.int .i64 5, .int .i64 ln, .int .i64 0, .string (ofL x), .slice none 0 0]) := Lib.hid (by rw [hw]; exact HXX5.out.set 0 (.int .i64 5) (by simp))
    rw [← hw] at HP6 HF6 ⊢
    clear HP5 HF5 HXX5 hw
    have zX0 := HXX6.out.cells 0 _ rfl
    have zX1 := HXX6.out.cells 1 _ rfl
    have zX2 := HXX6.out.cells 2 _ rfl
    have zX3 := HXX6.out.cells 3 _ rfl
    have zX4 := HXX6.out.cells 4 _ rfl
    obtain ⟨y, s9, hm, h⟩ := bind_out HM.out
    have NA := Lib.hid (inside_any EX ({ data := #[91] }) ({ data := #[93] }) _ _ _ _ _ hm (HP6.out.keep ((Keeps.refl (fun _ => False) w8).drew)))
    replace HM := Lib.hid h
    clear h hm
    go_wp2_with fail
    refine wp_region_held_drew (S := fun w' => w'.cell? ⟨X, 0, none⟩ = some (.int .i64 5) ∧ w'.cell? ⟨X, 1, none⟩ = some (.int .i64 ln) ∧ w'.cell? ⟨X, 2, none⟩ = some (.int .i64 0) ∧ w'.cell? ⟨X, 3, none⟩ = some (.string (ofL x)) ∧ w'.cell? ⟨X, 4, none⟩ = some (.slice none 0 0)) (by kernel_rfl) (⟨zX0, zX1, zX2, zX3, zX4⟩) (fun hHeld => ?_)
    clear zX0 zX1 zX2 zX3 zX4
    have HP7 := Lib.hid (HP6.out.keep ((Keeps.refl (fun _ => False) w8).drew))
    have HF7 := Lib.hid (HF6.out.keeps ((Keeps.refl (fun _ => False) w8).drew))
    have HXX7 := Lib.hid (HXX6.out.keeps ((Keeps.refl (fun _ => False) w8).drew))
    clear HP6 HF6 HXX6 
    refine wpAnyH_take (i := 0) (v := ?_) rfl (by kernel_rfl) (by kernel_rfl) (by kernel_rfl) (fun _ _ _ h => h) (Or.inl ⟨by rfl, ?_⟩) (by assumption) ?_
    rotate_left
    · (intro w' hSw; (try dsimp only at hSw); obtain ⟨y0, y1, y2, y3, y4⟩ := hSw; go_simp; (try (with_reducible rfl)))
    simp only [Act.put, List.getElem_toArray, List.getElem_cons_succ, List.getElem_cons_zero, List.setIfInBounds_toArray, List.set_cons_succ, List.set_cons_zero]
    refine wpAnyH_take (i := 1) (v := ?_) rfl (by kernel_rfl) (by kernel_rfl) (by kernel_rfl) (fun _ _ _ h => h) (Or.inl ⟨by rfl, ?_⟩) (by assumption) ?_
    rotate_left
    · (intro w' hSw; (try dsimp only at hSw); obtain ⟨y0, y1, y2, y3, y4⟩ := hSw; go_simp; (try (with_reducible rfl)))
    simp only [Act.put, List.getElem_toArray, List.getElem_cons_succ, List.getElem_cons_zero, List.setIfInBounds_toArray, List.set_cons_succ, List.set_cons_zero]
    refine wpAnyH_take (i := 2) (v := ?_) rfl (by kernel_rfl) (by kernel_rfl) (by kernel_rfl) (fun _ _ _ h => h) (Or.inl ⟨by rfl, ?_⟩) (by assumption) ?_
    rotate_left
    · (intro w' hSw; (try dsimp only at hSw); obtain ⟨y0, y1, y2, y3, y4⟩ := hSw; go_simp; (try (with_reducible rfl)))
    simp only [Act.put, List.getElem_toArray, List.getElem_cons_succ, List.getElem_cons_zero, List.setIfInBounds_toArray, List.set_cons_succ, List.set_cons_zero]
    refine wpAnyH_ready (rs := [3]) (by kernel_rfl) (by simp) ?_
    refine AllReadyH.cons rfl (fun K hK => ?_) AllReadyH.nil
    go_simp
    (go_at_call 163; refine NA.out.mono ?_; rintro e w10 ⟨rfl, R11, hp, hf⟩; (try go_simp))
    have HP8 := Lib.hid hp
    have HF8 := Lib.hid (HF7.out.trans hf)
    have HXX8 := Lib.hid (HXX7.out.keep hf)
    clear HP7 HF7 HXX7 hp hf NA
    refine hK.out _ _ ⟨HXX8.out.cells 0 _ rfl, HXX8.out.cells 1 _ rfl, HXX8.out.cells 2 _ rfl, HXX8.out.cells 3 _ rfl, HXX8.out.cells 4 _ rfl⟩ (fun hHeld => ?_)
    clear hK K
    refine wpAnyH_ready (rs := [4]) (by kernel_rfl) (by simp) ?_
    refine AllReadyH.cons rfl (fun K hK => ?_) AllReadyH.nil
    go_simp
    have ZA := Lib.hid (HXX8.out.keeps (Keeps.one w10 (.cells #[.int .i64 y] 3)))
    refine hK.out _ _ ⟨ZA.out.cells 0 _ rfl, ZA.out.cells 1 _ rfl, ZA.out.cells 2 _ rfl, ZA.out.cells 3 _ rfl, ZA.out.cells 4 _ rfl⟩ (fun hHeld => ?_)
    clear hK K ZA
    refine wpAnyH_ready (rs := [5]) (by kernel_rfl) (by simp) ?_
    refine AllReadyH.cons rfl (fun K hK => ?_) AllReadyH.nil
    have NB := Lib.hid ((nodeC P src T).one HP8.out (5) (ln) (0) (x) y HM.out)
    go_simp
    (go_at_call 85; refine NB.out.mono ?_; rintro e w12 ⟨rfl, R13, hp, hf⟩; (try go_simp))
    have HP9 := Lib.hid hp
    have HF9 := Lib.hid (HF8.out.trans hf)
    have HXX9 := Lib.hid (HXX8.out.keep hf)
    clear HP8 HF8 HXX8 hp hf NB
    refine hK.out _ _ ⟨HXX9.out.cells 0 _ rfl, HXX9.out.cells 1 _ rfl, HXX9.out.cells 2 _ rfl, HXX9.out.cells 3 _ rfl, HXX9.out.cells 4 _ rfl⟩ (fun hHeld => ?_)
    clear hK K
    refine wpAnyH_take (i := 6) (v := ?_) rfl (by kernel_rfl) (by kernel_rfl) (by kernel_rfl) (fun _ _ _ h => h) (Or.inl ⟨by rfl, ?_⟩) (by assumption) ?_
    rotate_left
    · (intro w' hSw; (try dsimp only at hSw); obtain ⟨y0, y1, y2, y3, y4⟩ := hSw; go_simp; (try (with_reducible rfl)))
    simp only [Act.put, List.getElem_toArray, List.getElem_cons_succ, List.getElem_cons_zero, List.setIfInBounds_toArray, List.set_cons_succ, List.set_cons_zero]
    refine wpAnyH_done (by kernel_rfl) ?_ _
    clear hHeld
    go_wp2_with fail
    go_ret
    exact ⟨rfl, _, HP9.out, HF9.out⟩
  | false =>
    have h := HM.out
    rw [if_neg (by decide)] at h
    replace HM := Lib.hid h
    clear h
    go_wp2_with fail
    refine IC.out.mono ?_
    rintro e w14 ⟨rfl, k1⟩
    have HP5 := Lib.hid (HP4.out.keep k1)
    have HF5 := Lib.hid (HF4.out.keeps k1)
    have HXX5 := Lib.hid (HXX4.out.keeps k1)
    clear HP4 HF4 HXX4 IC k1 
    have NC := Lib.hid ((nodeC P src T).nil HP5.out (4) (ln) (0) (x) HM.out)
    have zX0 := HXX5.out.cells 0 _ rfl
    have zX1 := HXX5.out.cells 1 _ rfl
    have zX2 := HXX5.out.cells 2 _ rfl
    have zX3 := HXX5.out.cells 3 _ rfl
    have zX4 := HXX5.out.cells 4 _ rfl
    go_wp2_with fail
    refine NC.out.mono ?_
    rintro e w15 ⟨rfl, R16, hp, hf⟩
    have HP6 := Lib.hid hp
    have HF6 := Lib.hid (HF5.out.trans hf)
    have HXX6 := Lib.hid (HXX5.out.keep hf)
    clear HP5 HF5 HXX5 hp hf NC zX0 zX1 zX2 zX3 zX4
    go_wp2_with fail
    go_ret
    exact ⟨rfl, _, HP6.out, HF6.out⟩

end Go.Proofs.YtgelggdgbmldiaaDoor
