/-
  Layer 5: the walk of ValueLogic, one of its four ways. Written by an AI agent.
-/
import Derived.Test.YtpighdioomjnmaaDoorLogA
import Derived.Deep.DeepCutAuto
import Derived.Deep.RegionWith
import Derived.OpenShut
namespace Go.Proofs.YtpighdioomjnmaaDoor.logic
open Go.RowKit

set_option maxRecDepth 100000 in
set_option maxHeartbeats 16000000 in
theorem logic_10 (w : World) :
    Calls Tryd.prog 8 #[.bool true, .bool false] w fun e w' => e = .returned (.bool true) ∧ Below w.heap.size w w' := by
  go_enter Tryd.func8, Tryd.ntmps8
  go_wp2_with fail
  refine (shown_any _).mono ?_
  rintro e x1 ⟨rfl, B⟩
  go_wp2_with fail
  refine (bool_1 _).mono ?_
  rintro e x2 ⟨rfl, hb⟩
  replace B := keep_below B hb
  clear hb
  go_wp2_with fail
  refine (bool_0 _).mono ?_
  rintro e x3 ⟨rfl, hb⟩
  obtain ⟨d10, d11, d12⟩ := new_cell hb
  have y1 : x2.heap.size < x3.heap.size := up_size hb (Nat.le_refl _)
  replace B := up_below hb B
  clear hb
  go_wp2_with fail
  refine (bin_and10 _).mono ?_
  rintro e x4 ⟨rfl, hb⟩
  replace d10 := up_cell hb y1 d10
  replace d11 := up_cell hb y1 d11
  replace d12 := up_cell hb y1 d12
  replace y1 := up_size hb (Nat.le_of_lt y1)
  obtain ⟨d20, d21, d22⟩ := new_cell hb
  have y2 : x3.heap.size < x4.heap.size := up_size hb (Nat.le_refl _)
  replace B := up_below hb B
  clear hb
  go_upto_region 5 with fail
  obtain ⟨W4, hW⟩ : ∃ W : World, W = x4.alloc (.cells #[.int .i64 2, .int .i64 0, .string { data := #[] }] 23) := ⟨_, rfl⟩
  replace d10 : W4.cell? ⟨x2.heap.size, 0, none⟩ = _ := (congrArg (fun W : World => W.cell? ⟨x2.heap.size, 0, none⟩) hW).trans (at_alloc y1 d10)
  replace d11 : W4.cell? ⟨x2.heap.size, 1, none⟩ = _ := (congrArg (fun W : World => W.cell? ⟨x2.heap.size, 1, none⟩) hW).trans (at_alloc y1 d11)
  replace d12 : W4.cell? ⟨x2.heap.size, 2, none⟩ = _ := (congrArg (fun W : World => W.cell? ⟨x2.heap.size, 2, none⟩) hW).trans (at_alloc y1 d12)
  replace y1 : x2.heap.size < W4.heap.size := by rw [hW]; simp; omega
  replace d20 : W4.cell? ⟨x3.heap.size, 0, none⟩ = _ := (congrArg (fun W : World => W.cell? ⟨x3.heap.size, 0, none⟩) hW).trans (at_alloc y2 d20)
  replace d21 : W4.cell? ⟨x3.heap.size, 1, none⟩ = _ := (congrArg (fun W : World => W.cell? ⟨x3.heap.size, 1, none⟩) hW).trans (at_alloc y2 d21)
  replace d22 : W4.cell? ⟨x3.heap.size, 2, none⟩ = _ := (congrArg (fun W : World => W.cell? ⟨x3.heap.size, 2, none⟩) hW).trans (at_alloc y2 d22)
  replace y2 : x3.heap.size < W4.heap.size := by rw [hW]; simp; omega
  obtain ⟨d30, d31, d32⟩ : W4.cell? ⟨x4.heap.size, 0, none⟩ = some (.int .i64 2) ∧ W4.cell? ⟨x4.heap.size, 1, none⟩ = some (.int .i64 0) ∧ W4.cell? ⟨x4.heap.size, 2, none⟩ = some (.string { data := #[] }) := by rw [hW]; exact at_new
  have y3 : x4.heap.size < W4.heap.size := by rw [hW]; simp
  replace B : Below w.heap.size w W4 := by rw [hW]; exact B.alloc B.size _
  rw [← hW]
  clear hW
  go_cut [10, 11] (fun s10 s11 wx => ∃ g : Nat, s10 = .pointer (some ⟨g, 0, none⟩) ∧ s11 = .int .i64 0 ∧ wx.cell? ⟨g, 0, none⟩ = some (.int .i64 2) ∧ wx.cell? ⟨g, 1, none⟩ = some (.int .i64 1) ∧ wx.cell? ⟨g, 2, none⟩ = some (.string { data := #[] }) ∧ g < wx.heap.size ∧ Below W4.heap.size W4 wx)
  case first =>
    have mk : ∀ w' : World, Below W4.heap.size W4 w' → (w'.cell? ⟨x2.heap.size, 0, none⟩ = some (.int .i64 2) ∧ w'.cell? ⟨x2.heap.size, 1, none⟩ = some (.int .i64 1) ∧ w'.cell? ⟨x2.heap.size, 2, none⟩ = some (.string { data := #[] }) ∧ w'.cell? ⟨x3.heap.size, 0, none⟩ = some (.int .i64 2) ∧ w'.cell? ⟨x3.heap.size, 1, none⟩ = some (.int .i64 0) ∧ w'.cell? ⟨x3.heap.size, 2, none⟩ = some (.string { data := #[] }) ∧ Below W4.heap.size W4 w') := fun w' h => ⟨keep_cell h y1 d10, keep_cell h y1 d11, keep_cell h y1 d12, keep_cell h y2 d20, keep_cell h y2 d21, keep_cell h y2 d22, h⟩
    have MK := Lib.hid mk
    clear mk
    clear d10 d11 d12 d20 d21 d22 d30 d31 d32
    have HB : Below W4.heap.size W4 W4.drew := (Below.refl _ _).drew
    refine wp_region_held_drew (S := fun w' => w'.cell? ⟨x2.heap.size, 0, none⟩ = some (.int .i64 2) ∧ w'.cell? ⟨x2.heap.size, 1, none⟩ = some (.int .i64 1) ∧ w'.cell? ⟨x2.heap.size, 2, none⟩ = some (.string { data := #[] }) ∧ w'.cell? ⟨x3.heap.size, 0, none⟩ = some (.int .i64 2) ∧ w'.cell? ⟨x3.heap.size, 1, none⟩ = some (.int .i64 0) ∧ w'.cell? ⟨x3.heap.size, 2, none⟩ = some (.string { data := #[] }) ∧ Below W4.heap.size W4 w') (by kernel_rfl) (MK.out _ HB) (fun hHeld => ?_)
    generalize W4.drew = D at *
    refine wpAnyH_take (i := 0) (v := ?_) rfl (by kernel_rfl) (by kernel_rfl) (by kernel_rfl) (fun _ _ _ h => h) (Or.inl ⟨by rfl, ?_⟩) (by assumption) ?_
    rotate_left
    · (intro w' hSw; (try dsimp only at hSw); go_simp; (try (with_reducible rfl)))
    simp only [Act.put, List.getElem_toArray, List.getElem_cons_zero, List.setIfInBounds_toArray, List.set_cons_succ, List.set_cons_zero]
    refine wpAnyH_take (i := 2) (v := ?_) rfl (by kernel_rfl) (by kernel_rfl) (by kernel_rfl) (fun _ _ _ h => h) (Or.inl ⟨by rfl, ?_⟩) (by assumption) ?_
    rotate_left
    · (intro w' hSw; (try dsimp only at hSw); go_simp; (try (with_reducible rfl)))
    simp only [Act.put, List.getElem_toArray, List.getElem_cons_succ, List.getElem_cons_zero, List.setIfInBounds_toArray, List.set_cons_succ, List.set_cons_zero]
    refine wpAnyH_ready (rs := [1, 8]) (by kernel_rfl) (by simp) ?_
    refine AllReadyH.cons rfl (fun K hK => ?_) ?_
    · go_simp
      refine (sign_not1 _).mono ?_
      rintro e V37 ⟨rfl, hb⟩
      replace HB := keep_below HB hb
      clear hb
      refine hK.out _ _ (MK.out _ HB) (fun hHeld => ?_)
      clear hK K
      refine wpAnyH_ready (rs := [3, 8]) (by kernel_rfl) (by simp) ?_
      refine AllReadyH.cons rfl (fun K hK => ?_) ?_
      · go_simp
        refine (sign_not0 _).mono ?_
        rintro e V38 ⟨rfl, hb⟩
        replace HB := keep_below HB hb
        clear hb
        refine hK.out _ _ (MK.out _ HB) (fun hHeld => ?_)
        clear hK K
        refine wpAnyH_ready (rs := [4, 8]) (by kernel_rfl) (by simp) ?_
        refine AllReadyH.cons rfl (fun K hK => ?_) ?_
        · go_simp
          refine (bin_or01 _).mono ?_
          rintro e V39 ⟨rfl, hb⟩
          replace HB := keep_below HB hb
          clear hb
          refine hK.out _ _ (MK.out _ HB) (fun hHeld => ?_)
          clear hK K
          refine wpAnyH_take (i := 5) (v := ?_) rfl (by kernel_rfl) (by kernel_rfl) (by kernel_rfl) (fun _ _ _ h => h) (Or.inl ⟨by rfl, ?_⟩) (by assumption) ?_
          rotate_left
          · (intro w' hSw; (try dsimp only at hSw); go_simp; (try (with_reducible rfl)))
          simp only [Act.put, List.getElem_toArray, List.getElem_cons_succ, List.getElem_cons_zero, List.setIfInBounds_toArray, List.set_cons_succ, List.set_cons_zero]
          refine wpAnyH_take (i := 6) (v := ?_) rfl (by kernel_rfl) (by kernel_rfl) (by kernel_rfl) (fun _ _ _ h => h) (Or.inl ⟨by rfl, ?_⟩) (by assumption) ?_
          rotate_left
          · (intro w' hSw; (try dsimp only at hSw); go_simp; (try (with_reducible rfl)))
          simp only [Act.put, List.getElem_toArray, List.getElem_cons_succ, List.getElem_cons_zero, List.setIfInBounds_toArray, List.set_cons_succ, List.set_cons_zero]
          refine wpAnyH_take (i := 7) (v := ?_) rfl (by kernel_rfl) (by kernel_rfl) (by kernel_rfl) (fun _ _ _ h => h) (Or.inl ⟨by rfl, ?_⟩) (by assumption) ?_
          rotate_left
          · (intro w' hSw; (try dsimp only at hSw); go_simp; (try (with_reducible rfl)))
          simp only [Act.put, List.getElem_toArray, List.getElem_cons_succ, List.getElem_cons_zero, List.setIfInBounds_toArray, List.set_cons_succ, List.set_cons_zero]
          refine wpAnyH_ready (rs := [8]) (by kernel_rfl) (by simp) ?_
          refine AllReadyH.cons rfl (fun K hK => ?_) ?_
          · go_simp
            have z0 : ((V39).alloc (.cells #[.int .i64 0, .int .i64 0, .string { data := #[] }] 23)).cell? ⟨V39.heap.size, 0, none⟩ = some (.int .i64 0) := (at_new (w0 := V39)).1
            have f0 : ((V39).alloc (.cells #[.int .i64 0, .int .i64 0, .string { data := #[] }] 23)).frozen? ⟨V39.heap.size, 0, none⟩ = false := new_frozen (w0 := V39) 0
            have z1 : ((V39).alloc (.cells #[.int .i64 0, .int .i64 0, .string { data := #[] }] 23)).cell? ⟨V39.heap.size, 1, none⟩ = some (.int .i64 0) := (at_new (w0 := V39)).2.1
            have f1 : ((V39).alloc (.cells #[.int .i64 0, .int .i64 0, .string { data := #[] }] 23)).frozen? ⟨V39.heap.size, 1, none⟩ = false := new_frozen (w0 := V39) 1
            have z2 : ((V39).alloc (.cells #[.int .i64 0, .int .i64 0, .string { data := #[] }] 23)).cell? ⟨V39.heap.size, 2, none⟩ = some (.string { data := #[] }) := (at_new (w0 := V39)).2.2
            have f2 : ((V39).alloc (.cells #[.int .i64 0, .int .i64 0, .string { data := #[] }] 23)).frozen? ⟨V39.heap.size, 2, none⟩ = false := new_frozen (w0 := V39) 2
            have hq : V39.heap.size < ((V39).alloc (.cells #[.int .i64 0, .int .i64 0, .string { data := #[] }] 23)).heap.size := new_size (w0 := V39)
            have hq0 : W4.heap.size ≤ V39.heap.size := HB.size
            replace HB := HB.alloc HB.size (.cells #[.int .i64 0, .int .i64 0, .string { data := #[] }] 23)
            refine hK.out _ _ (MK.out _ HB) (fun hHeld => ?_)
            clear hK K
            generalize (V39).alloc (.cells #[.int .i64 0, .int .i64 0, .string { data := #[] }] 23) = V40 at *
            refine wpAnyH_ready (rs := [9]) (by kernel_rfl) (by simp) ?_
            refine AllReadyH.cons rfl (fun K hK => ?_) ?_
            · go_simp
              have HB2 := ((HB.setCell (p := ⟨V39.heap.size, 0, none⟩) hq0 (.int .i64 2)).setCell (p := ⟨V39.heap.size, 1, none⟩) hq0 (.int .i64 1)).setCell (p := ⟨V39.heap.size, 2, none⟩) hq0 (.string { data := #[] })
              refine hK.out _ _ (MK.out _ HB2) (fun hHeld => ?_)
              clear hK K
              refine wpAnyH_take (i := 10) (v := ?_) rfl (by kernel_rfl) (by kernel_rfl) (by kernel_rfl) (fun _ _ _ h => h) (Or.inl ⟨by rfl, ?_⟩) (by assumption) ?_
              rotate_left
              · (intro w' hSw; (try dsimp only at hSw); go_simp; (try (with_reducible rfl)))
              simp only [Act.put, List.getElem_toArray, List.getElem_cons_succ, List.getElem_cons_zero, List.setIfInBounds_toArray, List.set_cons_succ, List.set_cons_zero]
              refine wpAnyH_done (by kernel_rfl) ?_ _
              go_wp2_with fail
              go_meet
              refine ⟨_, rfl, rfl, ?_, ?_, ?_, ?_, ?_⟩ <;> first | exact HB2 | (go_simp; done) | (simp [z0, z1, z2, hq]; done) | (simp; omega)
            exact AllReadyH.nil
          exact AllReadyH.nil
        refine AllReadyH.cons rfl (fun K hK => ?_) ?_
        · go_simp
          have z0 : ((V38).alloc (.cells #[.int .i64 0, .int .i64 0, .string { data := #[] }] 23)).cell? ⟨V38.heap.size, 0, none⟩ = some (.int .i64 0) := (at_new (w0 := V38)).1
          have f0 : ((V38).alloc (.cells #[.int .i64 0, .int .i64 0, .string { data := #[] }] 23)).frozen? ⟨V38.heap.size, 0, none⟩ = false := new_frozen (w0 := V38) 0
          have z1 : ((V38).alloc (.cells #[.int .i64 0, .int .i64 0, .string { data := #[] }] 23)).cell? ⟨V38.heap.size, 1, none⟩ = some (.int .i64 0) := (at_new (w0 := V38)).2.1
          have f1 : ((V38).alloc (.cells #[.int .i64 0, .int .i64 0, .string { data := #[] }] 23)).frozen? ⟨V38.heap.size, 1, none⟩ = false := new_frozen (w0 := V38) 1
          have z2 : ((V38).alloc (.cells #[.int .i64 0, .int .i64 0, .string { data := #[] }] 23)).cell? ⟨V38.heap.size, 2, none⟩ = some (.string { data := #[] }) := (at_new (w0 := V38)).2.2
          have f2 : ((V38).alloc (.cells #[.int .i64 0, .int .i64 0, .string { data := #[] }] 23)).frozen? ⟨V38.heap.size, 2, none⟩ = false := new_frozen (w0 := V38) 2
          have hq : V38.heap.size < ((V38).alloc (.cells #[.int .i64 0, .int .i64 0, .string { data := #[] }] 23)).heap.size := new_size (w0 := V38)
          have hq0 : W4.heap.size ≤ V38.heap.size := HB.size
          replace HB := HB.alloc HB.size (.cells #[.int .i64 0, .int .i64 0, .string { data := #[] }] 23)
          refine hK.out _ _ (MK.out _ HB) (fun hHeld => ?_)
          clear hK K
          generalize (V38).alloc (.cells #[.int .i64 0, .int .i64 0, .string { data := #[] }] 23) = V41 at *
          refine wpAnyH_ready (rs := [4]) (by kernel_rfl) (by simp) ?_
          refine AllReadyH.cons rfl (fun K hK => ?_) ?_
          · go_simp
            refine (bin_or01 _).mono ?_
            rintro e V42 ⟨rfl, hb⟩
            replace z0 := keep_cell hb hq z0
            replace f0 := ((bcell hb).2 V38.heap.size 0 hq).trans f0
            replace z1 := keep_cell hb hq z1
            replace f1 := ((bcell hb).2 V38.heap.size 1 hq).trans f1
            replace z2 := keep_cell hb hq z2
            replace f2 := ((bcell hb).2 V38.heap.size 2 hq).trans f2
            replace hq := Nat.lt_of_lt_of_le hq hb.size
            replace HB := keep_below HB hb
            clear hb
            refine hK.out _ _ (MK.out _ HB) (fun hHeld => ?_)
            clear hK K
            refine wpAnyH_take (i := 5) (v := ?_) rfl (by kernel_rfl) (by kernel_rfl) (by kernel_rfl) (fun _ _ _ h => h) (Or.inl ⟨by rfl, ?_⟩) (by assumption) ?_
            rotate_left
            · (intro w' hSw; (try dsimp only at hSw); go_simp; (try (with_reducible rfl)))
            simp only [Act.put, List.getElem_toArray, List.getElem_cons_succ, List.getElem_cons_zero, List.setIfInBounds_toArray, List.set_cons_succ, List.set_cons_zero]
            refine wpAnyH_take (i := 6) (v := ?_) rfl (by kernel_rfl) (by kernel_rfl) (by kernel_rfl) (fun _ _ _ h => h) (Or.inl ⟨by rfl, ?_⟩) (by assumption) ?_
            rotate_left
            · (intro w' hSw; (try dsimp only at hSw); go_simp; (try (with_reducible rfl)))
            simp only [Act.put, List.getElem_toArray, List.getElem_cons_succ, List.getElem_cons_zero, List.setIfInBounds_toArray, List.set_cons_succ, List.set_cons_zero]
            refine wpAnyH_take (i := 7) (v := ?_) rfl (by kernel_rfl) (by kernel_rfl) (by kernel_rfl) (fun _ _ _ h => h) (Or.inl ⟨by rfl, ?_⟩) (by assumption) ?_
            rotate_left
            · (intro w' hSw; (try dsimp only at hSw); go_simp; (try (with_reducible rfl)))
            simp only [Act.put, List.getElem_toArray, List.getElem_cons_succ, List.getElem_cons_zero, List.setIfInBounds_toArray, List.set_cons_succ, List.set_cons_zero]
            refine wpAnyH_ready (rs := [9]) (by kernel_rfl) (by simp) ?_
            refine AllReadyH.cons rfl (fun K hK => ?_) ?_
            · go_simp
              have HB2 := ((HB.setCell (p := ⟨V38.heap.size, 0, none⟩) hq0 (.int .i64 2)).setCell (p := ⟨V38.heap.size, 1, none⟩) hq0 (.int .i64 1)).setCell (p := ⟨V38.heap.size, 2, none⟩) hq0 (.string { data := #[] })
              refine hK.out _ _ (MK.out _ HB2) (fun hHeld => ?_)
              clear hK K
              refine wpAnyH_take (i := 10) (v := ?_) rfl (by kernel_rfl) (by kernel_rfl) (by kernel_rfl) (fun _ _ _ h => h) (Or.inl ⟨by rfl, ?_⟩) (by assumption) ?_
              rotate_left
              · (intro w' hSw; (try dsimp only at hSw); go_simp; (try (with_reducible rfl)))
              simp only [Act.put, List.getElem_toArray, List.getElem_cons_succ, List.getElem_cons_zero, List.setIfInBounds_toArray, List.set_cons_succ, List.set_cons_zero]
              refine wpAnyH_done (by kernel_rfl) ?_ _
              go_wp2_with fail
              go_meet
              refine ⟨_, rfl, rfl, ?_, ?_, ?_, ?_, ?_⟩ <;> first | exact HB2 | (go_simp; done) | (simp [z0, z1, z2, hq]; done) | (simp; omega)
            exact AllReadyH.nil
          exact AllReadyH.nil
        exact AllReadyH.nil
      refine AllReadyH.cons rfl (fun K hK => ?_) ?_
      · go_simp
        have z0 : ((V37).alloc (.cells #[.int .i64 0, .int .i64 0, .string { data := #[] }] 23)).cell? ⟨V37.heap.size, 0, none⟩ = some (.int .i64 0) := (at_new (w0 := V37)).1
        have f0 : ((V37).alloc (.cells #[.int .i64 0, .int .i64 0, .string { data := #[] }] 23)).frozen? ⟨V37.heap.size, 0, none⟩ = false := new_frozen (w0 := V37) 0
        have z1 : ((V37).alloc (.cells #[.int .i64 0, .int .i64 0, .string { data := #[] }] 23)).cell? ⟨V37.heap.size, 1, none⟩ = some (.int .i64 0) := (at_new (w0 := V37)).2.1
        have f1 : ((V37).alloc (.cells #[.int .i64 0, .int .i64 0, .string { data := #[] }] 23)).frozen? ⟨V37.heap.size, 1, none⟩ = false := new_frozen (w0 := V37) 1
        have z2 : ((V37).alloc (.cells #[.int .i64 0, .int .i64 0, .string { data := #[] }] 23)).cell? ⟨V37.heap.size, 2, none⟩ = some (.string { data := #[] }) := (at_new (w0 := V37)).2.2
        have f2 : ((V37).alloc (.cells #[.int .i64 0, .int .i64 0, .string { data := #[] }] 23)).frozen? ⟨V37.heap.size, 2, none⟩ = false := new_frozen (w0 := V37) 2
        have hq : V37.heap.size < ((V37).alloc (.cells #[.int .i64 0, .int .i64 0, .string { data := #[] }] 23)).heap.size := new_size (w0 := V37)
        have hq0 : W4.heap.size ≤ V37.heap.size := HB.size
        replace HB := HB.alloc HB.size (.cells #[.int .i64 0, .int .i64 0, .string { data := #[] }] 23)
        refine hK.out _ _ (MK.out _ HB) (fun hHeld => ?_)
        clear hK K
        generalize (V37).alloc (.cells #[.int .i64 0, .int .i64 0, .string { data := #[] }] 23) = V43 at *
        refine wpAnyH_ready (rs := [3]) (by kernel_rfl) (by simp) ?_
        refine AllReadyH.cons rfl (fun K hK => ?_) ?_
        · go_simp
          refine (sign_not0 _).mono ?_
          rintro e V44 ⟨rfl, hb⟩
          replace z0 := keep_cell hb hq z0
          replace f0 := ((bcell hb).2 V37.heap.size 0 hq).trans f0
          replace z1 := keep_cell hb hq z1
          replace f1 := ((bcell hb).2 V37.heap.size 1 hq).trans f1
          replace z2 := keep_cell hb hq z2
          replace f2 := ((bcell hb).2 V37.heap.size 2 hq).trans f2
          replace hq := Nat.lt_of_lt_of_le hq hb.size
          replace HB := keep_below HB hb
          clear hb
          refine hK.out _ _ (MK.out _ HB) (fun hHeld => ?_)
          clear hK K
          refine wpAnyH_ready (rs := [4]) (by kernel_rfl) (by simp) ?_
          refine AllReadyH.cons rfl (fun K hK => ?_) ?_
          · go_simp
            refine (bin_or01 _).mono ?_
            rintro e V45 ⟨rfl, hb⟩
            replace z0 := keep_cell hb hq z0
            replace f0 := ((bcell hb).2 V37.heap.size 0 hq).trans f0
            replace z1 := keep_cell hb hq z1
            replace f1 := ((bcell hb).2 V37.heap.size 1 hq).trans f1
            replace z2 := keep_cell hb hq z2
            replace f2 := ((bcell hb).2 V37.heap.size 2 hq).trans f2
            replace hq := Nat.lt_of_lt_of_le hq hb.size
            replace HB := keep_below HB hb
            clear hb
            refine hK.out _ _ (MK.out _ HB) (fun hHeld => ?_)
            clear hK K
            refine wpAnyH_take (i := 5) (v := ?_) rfl (by kernel_rfl) (by kernel_rfl) (by kernel_rfl) (fun _ _ _ h => h) (Or.inl ⟨by rfl, ?_⟩) (by assumption) ?_
            rotate_left
            · (intro w' hSw; (try dsimp only at hSw); go_simp; (try (with_reducible rfl)))
            simp only [Act.put, List.getElem_toArray, List.getElem_cons_succ, List.getElem_cons_zero, List.setIfInBounds_toArray, List.set_cons_succ, List.set_cons_zero]
            refine wpAnyH_take (i := 6) (v := ?_) rfl (by kernel_rfl) (by kernel_rfl) (by kernel_rfl) (fun _ _ _ h => h) (Or.inl ⟨by rfl, ?_⟩) (by assumption) ?_
            rotate_left
            · (intro w' hSw; (try dsimp only at hSw); go_simp; (try (with_reducible rfl)))
            simp only [Act.put, List.getElem_toArray, List.getElem_cons_succ, List.getElem_cons_zero, List.setIfInBounds_toArray, List.set_cons_succ, List.set_cons_zero]
            refine wpAnyH_take (i := 7) (v := ?_) rfl (by kernel_rfl) (by kernel_rfl) (by kernel_rfl) (fun _ _ _ h => h) (Or.inl ⟨by rfl, ?_⟩) (by assumption) ?_
            rotate_left
            · (intro w' hSw; (try dsimp only at hSw); go_simp; (try (with_reducible rfl)))
            simp only [Act.put, List.getElem_toArray, List.getElem_cons_succ, List.getElem_cons_zero, List.setIfInBounds_toArray, List.set_cons_succ, List.set_cons_zero]
            refine wpAnyH_ready (rs := [9]) (by kernel_rfl) (by simp) ?_
            refine AllReadyH.cons rfl (fun K hK => ?_) ?_
            · go_simp
              have HB2 := ((HB.setCell (p := ⟨V37.heap.size, 0, none⟩) hq0 (.int .i64 2)).setCell (p := ⟨V37.heap.size, 1, none⟩) hq0 (.int .i64 1)).setCell (p := ⟨V37.heap.size, 2, none⟩) hq0 (.string { data := #[] })
              refine hK.out _ _ (MK.out _ HB2) (fun hHeld => ?_)
              clear hK K
              refine wpAnyH_take (i := 10) (v := ?_) rfl (by kernel_rfl) (by kernel_rfl) (by kernel_rfl) (fun _ _ _ h => h) (Or.inl ⟨by rfl, ?_⟩) (by assumption) ?_
              rotate_left
              · (intro w' hSw; (try dsimp only at hSw); go_simp; (try (with_reducible rfl)))
              simp only [Act.put, List.getElem_toArray, List.getElem_cons_succ, List.getElem_cons_zero, List.setIfInBounds_toArray, List.set_cons_succ, List.set_cons_zero]
              refine wpAnyH_done (by kernel_rfl) ?_ _
              go_wp2_with fail
              go_meet
              refine ⟨_, rfl, rfl, ?_, ?_, ?_, ?_, ?_⟩ <;> first | exact HB2 | (go_simp; done) | (simp [z0, z1, z2, hq]; done) | (simp; omega)
            exact AllReadyH.nil
          exact AllReadyH.nil
        exact AllReadyH.nil
      exact AllReadyH.nil
    refine AllReadyH.cons rfl (fun K hK => ?_) ?_
    · go_simp
      have z0 : ((D).alloc (.cells #[.int .i64 0, .int .i64 0, .string { data := #[] }] 23)).cell? ⟨D.heap.size, 0, none⟩ = some (.int .i64 0) := (at_new (w0 := D)).1
      have f0 : ((D).alloc (.cells #[.int .i64 0, .int .i64 0, .string { data := #[] }] 23)).frozen? ⟨D.heap.size, 0, none⟩ = false := new_frozen (w0 := D) 0
      have z1 : ((D).alloc (.cells #[.int .i64 0, .int .i64 0, .string { data := #[] }] 23)).cell? ⟨D.heap.size, 1, none⟩ = some (.int .i64 0) := (at_new (w0 := D)).2.1
      have f1 : ((D).alloc (.cells #[.int .i64 0, .int .i64 0, .string { data := #[] }] 23)).frozen? ⟨D.heap.size, 1, none⟩ = false := new_frozen (w0 := D) 1
      have z2 : ((D).alloc (.cells #[.int .i64 0, .int .i64 0, .string { data := #[] }] 23)).cell? ⟨D.heap.size, 2, none⟩ = some (.string { data := #[] }) := (at_new (w0 := D)).2.2
      have f2 : ((D).alloc (.cells #[.int .i64 0, .int .i64 0, .string { data := #[] }] 23)).frozen? ⟨D.heap.size, 2, none⟩ = false := new_frozen (w0 := D) 2
      have hq : D.heap.size < ((D).alloc (.cells #[.int .i64 0, .int .i64 0, .string { data := #[] }] 23)).heap.size := new_size (w0 := D)
      have hq0 : W4.heap.size ≤ D.heap.size := HB.size
      replace HB := HB.alloc HB.size (.cells #[.int .i64 0, .int .i64 0, .string { data := #[] }] 23)
      refine hK.out _ _ (MK.out _ HB) (fun hHeld => ?_)
      clear hK K
      generalize (D).alloc (.cells #[.int .i64 0, .int .i64 0, .string { data := #[] }] 23) = V46 at *
      refine wpAnyH_ready (rs := [1]) (by kernel_rfl) (by simp) ?_
      refine AllReadyH.cons rfl (fun K hK => ?_) ?_
      · go_simp
        refine (sign_not1 _).mono ?_
        rintro e V47 ⟨rfl, hb⟩
        replace z0 := keep_cell hb hq z0
        replace f0 := ((bcell hb).2 D.heap.size 0 hq).trans f0
        replace z1 := keep_cell hb hq z1
        replace f1 := ((bcell hb).2 D.heap.size 1 hq).trans f1
        replace z2 := keep_cell hb hq z2
        replace f2 := ((bcell hb).2 D.heap.size 2 hq).trans f2
        replace hq := Nat.lt_of_lt_of_le hq hb.size
        replace HB := keep_below HB hb
        clear hb
        refine hK.out _ _ (MK.out _ HB) (fun hHeld => ?_)
        clear hK K
        refine wpAnyH_ready (rs := [3]) (by kernel_rfl) (by simp) ?_
        refine AllReadyH.cons rfl (fun K hK => ?_) ?_
        · go_simp
          refine (sign_not0 _).mono ?_
          rintro e V48 ⟨rfl, hb⟩
          replace z0 := keep_cell hb hq z0
          replace f0 := ((bcell hb).2 D.heap.size 0 hq).trans f0
          replace z1 := keep_cell hb hq z1
          replace f1 := ((bcell hb).2 D.heap.size 1 hq).trans f1
          replace z2 := keep_cell hb hq z2
          replace f2 := ((bcell hb).2 D.heap.size 2 hq).trans f2
          replace hq := Nat.lt_of_lt_of_le hq hb.size
          replace HB := keep_below HB hb
          clear hb
          refine hK.out _ _ (MK.out _ HB) (fun hHeld => ?_)
          clear hK K
          refine wpAnyH_ready (rs := [4]) (by kernel_rfl) (by simp) ?_
          refine AllReadyH.cons rfl (fun K hK => ?_) ?_
          · go_simp
            refine (bin_or01 _).mono ?_
            rintro e V49 ⟨rfl, hb⟩
            replace z0 := keep_cell hb hq z0
            replace f0 := ((bcell hb).2 D.heap.size 0 hq).trans f0
            replace z1 := keep_cell hb hq z1
            replace f1 := ((bcell hb).2 D.heap.size 1 hq).trans f1
            replace z2 := keep_cell hb hq z2
            replace f2 := ((bcell hb).2 D.heap.size 2 hq).trans f2
            replace hq := Nat.lt_of_lt_of_le hq hb.size
            replace HB := keep_below HB hb
            clear hb
            refine hK.out _ _ (MK.out _ HB) (fun hHeld => ?_)
            clear hK K
            refine wpAnyH_take (i := 5) (v := ?_) rfl (by kernel_rfl) (by kernel_rfl) (by kernel_rfl) (fun _ _ _ h => h) (Or.inl ⟨by rfl, ?_⟩) (by assumption) ?_
            rotate_left
            · (intro w' hSw; (try dsimp only at hSw); go_simp; (try (with_reducible rfl)))
            simp only [Act.put, List.getElem_toArray, List.getElem_cons_succ, List.getElem_cons_zero, List.setIfInBounds_toArray, List.set_cons_succ, List.set_cons_zero]
            refine wpAnyH_take (i := 6) (v := ?_) rfl (by kernel_rfl) (by kernel_rfl) (by kernel_rfl) (fun _ _ _ h => h) (Or.inl ⟨by rfl, ?_⟩) (by assumption) ?_
            rotate_left
            · (intro w' hSw; (try dsimp only at hSw); go_simp; (try (with_reducible rfl)))
            simp only [Act.put, List.getElem_toArray, List.getElem_cons_succ, List.getElem_cons_zero, List.setIfInBounds_toArray, List.set_cons_succ, List.set_cons_zero]
            refine wpAnyH_take (i := 7) (v := ?_) rfl (by kernel_rfl) (by kernel_rfl) (by kernel_rfl) (fun _ _ _ h => h) (Or.inl ⟨by rfl, ?_⟩) (by assumption) ?_
            rotate_left
            · (intro w' hSw; (try dsimp only at hSw); go_simp; (try (with_reducible rfl)))
            simp only [Act.put, List.getElem_toArray, List.getElem_cons_succ, List.getElem_cons_zero, List.setIfInBounds_toArray, List.set_cons_succ, List.set_cons_zero]
            refine wpAnyH_ready (rs := [9]) (by kernel_rfl) (by simp) ?_
            refine AllReadyH.cons rfl (fun K hK => ?_) ?_
            · go_simp
              have HB2 := ((HB.setCell (p := ⟨D.heap.size, 0, none⟩) hq0 (.int .i64 2)).setCell (p := ⟨D.heap.size, 1, none⟩) hq0 (.int .i64 1)).setCell (p := ⟨D.heap.size, 2, none⟩) hq0 (.string { data := #[] })
              refine hK.out _ _ (MK.out _ HB2) (fun hHeld => ?_)
              clear hK K
              refine wpAnyH_take (i := 10) (v := ?_) rfl (by kernel_rfl) (by kernel_rfl) (by kernel_rfl) (fun _ _ _ h => h) (Or.inl ⟨by rfl, ?_⟩) (by assumption) ?_
              rotate_left
              · (intro w' hSw; (try dsimp only at hSw); go_simp; (try (with_reducible rfl)))
              simp only [Act.put, List.getElem_toArray, List.getElem_cons_succ, List.getElem_cons_zero, List.setIfInBounds_toArray, List.set_cons_succ, List.set_cons_zero]
              refine wpAnyH_done (by kernel_rfl) ?_ _
              go_wp2_with fail
              go_meet
              refine ⟨_, rfl, rfl, ?_, ?_, ?_, ?_, ?_⟩ <;> first | exact HB2 | (go_simp; done) | (simp [z0, z1, z2, hq]; done) | (simp; omega)
            exact AllReadyH.nil
          exact AllReadyH.nil
        exact AllReadyH.nil
      exact AllReadyH.nil
    exact AllReadyH.nil
  case rest =>
    obtain ⟨g, rfl, rfl, d40, d41, d42, y4, hb⟩ := hcut
    replace d10 := keep_cell hb y1 d10
    replace d11 := keep_cell hb y1 d11
    replace d12 := keep_cell hb y1 d12
    replace y1 := Nat.lt_of_lt_of_le y1 hb.size
    replace d20 := keep_cell hb y2 d20
    replace d21 := keep_cell hb y2 d21
    replace d22 := keep_cell hb y2 d22
    replace y2 := Nat.lt_of_lt_of_le y2 hb.size
    replace d30 := keep_cell hb y3 d30
    replace d31 := keep_cell hb y3 d31
    replace d32 := keep_cell hb y3 d32
    replace y3 := Nat.lt_of_lt_of_le y3 hb.size
    replace B := keep_below B hb
    clear hb
    go_wp2_with fail
    refine (bin_or10 _).mono ?_
    rintro e x5 ⟨rfl, hb⟩
    replace d10 := keep_cell hb y1 d10
    replace d11 := keep_cell hb y1 d11
    replace d12 := keep_cell hb y1 d12
    replace y1 := Nat.lt_of_lt_of_le y1 hb.size
    replace d20 := keep_cell hb y2 d20
    replace d21 := keep_cell hb y2 d21
    replace d22 := keep_cell hb y2 d22
    replace y2 := Nat.lt_of_lt_of_le y2 hb.size
    replace d30 := keep_cell hb y3 d30
    replace d31 := keep_cell hb y3 d31
    replace d32 := keep_cell hb y3 d32
    replace y3 := Nat.lt_of_lt_of_le y3 hb.size
    replace d40 := keep_cell hb y4 d40
    replace d41 := keep_cell hb y4 d41
    replace d42 := keep_cell hb y4 d42
    replace y4 := Nat.lt_of_lt_of_le y4 hb.size
    replace B := keep_below B hb
    clear hb
    go_wp2_with fail
    obtain ⟨W5, hW⟩ : ∃ W : World, W = x5.alloc (.cells #[.int .i64 2, .int .i64 1, .string { data := #[] }] 23) := ⟨_, rfl⟩
    replace d10 : W5.cell? ⟨x2.heap.size, 0, none⟩ = _ := (congrArg (fun W : World => W.cell? ⟨x2.heap.size, 0, none⟩) hW).trans (at_alloc y1 d10)
    replace d11 : W5.cell? ⟨x2.heap.size, 1, none⟩ = _ := (congrArg (fun W : World => W.cell? ⟨x2.heap.size, 1, none⟩) hW).trans (at_alloc y1 d11)
    replace d12 : W5.cell? ⟨x2.heap.size, 2, none⟩ = _ := (congrArg (fun W : World => W.cell? ⟨x2.heap.size, 2, none⟩) hW).trans (at_alloc y1 d12)
    replace y1 : x2.heap.size < W5.heap.size := by rw [hW]; simp; omega
    replace d20 : W5.cell? ⟨x3.heap.size, 0, none⟩ = _ := (congrArg (fun W : World => W.cell? ⟨x3.heap.size, 0, none⟩) hW).trans (at_alloc y2 d20)
    replace d21 : W5.cell? ⟨x3.heap.size, 1, none⟩ = _ := (congrArg (fun W : World => W.cell? ⟨x3.heap.size, 1, none⟩) hW).trans (at_alloc y2 d21)
    replace d22 : W5.cell? ⟨x3.heap.size, 2, none⟩ = _ := (congrArg (fun W : World => W.cell? ⟨x3.heap.size, 2, none⟩) hW).trans (at_alloc y2 d22)
    replace y2 : x3.heap.size < W5.heap.size := by rw [hW]; simp; omega
    replace d30 : W5.cell? ⟨x4.heap.size, 0, none⟩ = _ := (congrArg (fun W : World => W.cell? ⟨x4.heap.size, 0, none⟩) hW).trans (at_alloc y3 d30)
    replace d31 : W5.cell? ⟨x4.heap.size, 1, none⟩ = _ := (congrArg (fun W : World => W.cell? ⟨x4.heap.size, 1, none⟩) hW).trans (at_alloc y3 d31)
    replace d32 : W5.cell? ⟨x4.heap.size, 2, none⟩ = _ := (congrArg (fun W : World => W.cell? ⟨x4.heap.size, 2, none⟩) hW).trans (at_alloc y3 d32)
    replace y3 : x4.heap.size < W5.heap.size := by rw [hW]; simp; omega
    replace d40 : W5.cell? ⟨g, 0, none⟩ = _ := (congrArg (fun W : World => W.cell? ⟨g, 0, none⟩) hW).trans (at_alloc y4 d40)
    replace d41 : W5.cell? ⟨g, 1, none⟩ = _ := (congrArg (fun W : World => W.cell? ⟨g, 1, none⟩) hW).trans (at_alloc y4 d41)
    replace d42 : W5.cell? ⟨g, 2, none⟩ = _ := (congrArg (fun W : World => W.cell? ⟨g, 2, none⟩) hW).trans (at_alloc y4 d42)
    replace y4 : g < W5.heap.size := by rw [hW]; simp; omega
    obtain ⟨d50, d51, d52⟩ : W5.cell? ⟨x5.heap.size, 0, none⟩ = some (.int .i64 2) ∧ W5.cell? ⟨x5.heap.size, 1, none⟩ = some (.int .i64 1) ∧ W5.cell? ⟨x5.heap.size, 2, none⟩ = some (.string { data := #[] }) := by rw [hW]; exact at_new
    have y5 : x5.heap.size < W5.heap.size := by rw [hW]; simp
    replace B : Below w.heap.size w W5 := by rw [hW]; exact B.alloc B.size _
    rw [← hW]
    clear hW
    clear d20 d21 d22 y2
    have mk : ∀ w' : World, Below W5.heap.size W5 w' → (w'.cell? ⟨x2.heap.size, 0, none⟩ = some (.int .i64 2) ∧ w'.cell? ⟨x2.heap.size, 1, none⟩ = some (.int .i64 1) ∧ w'.cell? ⟨x2.heap.size, 2, none⟩ = some (.string { data := #[] }) ∧ w'.cell? ⟨x4.heap.size, 0, none⟩ = some (.int .i64 2) ∧ w'.cell? ⟨x4.heap.size, 1, none⟩ = some (.int .i64 0) ∧ w'.cell? ⟨x4.heap.size, 2, none⟩ = some (.string { data := #[] }) ∧ w'.cell? ⟨g, 0, none⟩ = some (.int .i64 2) ∧ w'.cell? ⟨g, 1, none⟩ = some (.int .i64 1) ∧ w'.cell? ⟨g, 2, none⟩ = some (.string { data := #[] }) ∧ w'.cell? ⟨x5.heap.size, 0, none⟩ = some (.int .i64 2) ∧ w'.cell? ⟨x5.heap.size, 1, none⟩ = some (.int .i64 1) ∧ w'.cell? ⟨x5.heap.size, 2, none⟩ = some (.string { data := #[] }) ∧ Below W5.heap.size W5 w') := fun w' h => ⟨keep_cell h y1 d10, keep_cell h y1 d11, keep_cell h y1 d12, keep_cell h y3 d30, keep_cell h y3 d31, keep_cell h y3 d32, keep_cell h y4 d40, keep_cell h y4 d41, keep_cell h y4 d42, keep_cell h y5 d50, keep_cell h y5 d51, keep_cell h y5 d52, h⟩
    have MK := Lib.hid mk
    clear mk
    refine wp_region_held_drew (S := fun w' => w'.cell? ⟨x2.heap.size, 0, none⟩ = some (.int .i64 2) ∧ w'.cell? ⟨x2.heap.size, 1, none⟩ = some (.int .i64 1) ∧ w'.cell? ⟨x2.heap.size, 2, none⟩ = some (.string { data := #[] }) ∧ w'.cell? ⟨x4.heap.size, 0, none⟩ = some (.int .i64 2) ∧ w'.cell? ⟨x4.heap.size, 1, none⟩ = some (.int .i64 0) ∧ w'.cell? ⟨x4.heap.size, 2, none⟩ = some (.string { data := #[] }) ∧ w'.cell? ⟨g, 0, none⟩ = some (.int .i64 2) ∧ w'.cell? ⟨g, 1, none⟩ = some (.int .i64 1) ∧ w'.cell? ⟨g, 2, none⟩ = some (.string { data := #[] }) ∧ w'.cell? ⟨x5.heap.size, 0, none⟩ = some (.int .i64 2) ∧ w'.cell? ⟨x5.heap.size, 1, none⟩ = some (.int .i64 1) ∧ w'.cell? ⟨x5.heap.size, 2, none⟩ = some (.string { data := #[] }) ∧ Below W5.heap.size W5 w') (by kernel_rfl) (MK.out _ (Below.drew (Below.refl _ _))) (fun hHeld => ?_)
    refine wpAnyH_take (i := 0) (v := ?_) rfl (by kernel_rfl) (by kernel_rfl) (by kernel_rfl) (fun _ _ _ h => h) (Or.inl ⟨by rfl, ?_⟩) (by assumption) ?_
    rotate_left
    · (intro w' hSw; (try dsimp only at hSw); go_simp; (try (with_reducible rfl)))
    simp only [Act.put, List.getElem_toArray, List.getElem_cons_zero, List.setIfInBounds_toArray, List.set_cons_succ, List.set_cons_zero]
    refine wpAnyH_take (i := 1) (v := ?_) rfl (by kernel_rfl) (by kernel_rfl) (by kernel_rfl) (fun _ _ _ h => h) (Or.inl ⟨by rfl, ?_⟩) (by assumption) ?_
    rotate_left
    · (intro w' hSw; (try dsimp only at hSw); go_simp; (try (with_reducible rfl)))
    simp only [Act.put, List.getElem_toArray, List.getElem_cons_succ, List.getElem_cons_zero, List.setIfInBounds_toArray, List.set_cons_succ, List.set_cons_zero]
    refine wpAnyH_take (i := 2) (v := ?_) rfl (by kernel_rfl) (by kernel_rfl) (by kernel_rfl) (fun _ _ _ h => h) (Or.inl ⟨by rfl, ?_⟩) (by assumption) ?_
    rotate_left
    · (intro w' hSw; (try dsimp only at hSw); go_simp; (try (with_reducible rfl)))
    simp only [Act.put, List.getElem_toArray, List.getElem_cons_succ, List.getElem_cons_zero, List.setIfInBounds_toArray, List.set_cons_succ, List.set_cons_zero]
    refine wpAnyH_take (i := 3) (v := ?_) rfl (by kernel_rfl) (by kernel_rfl) (by kernel_rfl) (fun _ _ _ h => h) (Or.inl ⟨by rfl, ?_⟩) (by assumption) ?_
    rotate_left
    · (intro w' hSw; (try dsimp only at hSw); go_simp; (try (with_reducible rfl)))
    simp only [Act.put, List.getElem_toArray, List.getElem_cons_succ, List.getElem_cons_zero, List.setIfInBounds_toArray, List.set_cons_succ, List.set_cons_zero]
    refine wpAnyH_take (i := 4) (v := ?_) rfl (by kernel_rfl) (by kernel_rfl) (by kernel_rfl) (fun _ _ _ h => h) (Or.inl ⟨by rfl, ?_⟩) (by assumption) ?_
    rotate_left
    · (intro w' hSw; (try dsimp only at hSw); go_simp; (try (with_reducible rfl)))
    simp only [Act.put, List.getElem_toArray, List.getElem_cons_succ, List.getElem_cons_zero, List.setIfInBounds_toArray, List.set_cons_succ, List.set_cons_zero]
    refine wpAnyH_take (i := 5) (v := ?_) rfl (by kernel_rfl) (by kernel_rfl) (by kernel_rfl) (fun _ _ _ h => h) (Or.inl ⟨by rfl, ?_⟩) (by assumption) ?_
    rotate_left
    · (intro w' hSw; (try dsimp only at hSw); go_simp; (try (with_reducible rfl)))
    simp only [Act.put, List.getElem_toArray, List.getElem_cons_succ, List.getElem_cons_zero, List.setIfInBounds_toArray, List.set_cons_succ, List.set_cons_zero]
    refine wpAnyH_take (i := 6) (v := ?_) rfl (by kernel_rfl) (by kernel_rfl) (by kernel_rfl) (fun _ _ _ h => h) (Or.inl ⟨by rfl, ?_⟩) (by assumption) ?_
    rotate_left
    · (intro w' hSw; (try dsimp only at hSw); go_simp; (try (with_reducible rfl)))
    simp only [Act.put, List.getElem_toArray, List.getElem_cons_succ, List.getElem_cons_zero, List.setIfInBounds_toArray, List.set_cons_succ, List.set_cons_zero]
    refine wpAnyH_take (i := 7) (v := ?_) rfl (by kernel_rfl) (by kernel_rfl) (by kernel_rfl) (fun _ _ _ h => h) (Or.inl ⟨by rfl, ?_⟩) (by assumption) ?_
    rotate_left
    · (intro w' hSw; (try dsimp only at hSw); go_simp; (try (with_reducible rfl)))
    simp only [Act.put, List.getElem_toArray, List.getElem_cons_succ, List.getElem_cons_zero, List.setIfInBounds_toArray, List.set_cons_succ, List.set_cons_zero]
    refine wpAnyH_take (i := 8) (v := ?_) rfl (by kernel_rfl) (by kernel_rfl) (by kernel_rfl) (fun _ _ _ h => h) (Or.inl ⟨by rfl, ?_⟩) (by assumption) ?_
    rotate_left
    · (intro w' hSw; (try dsimp only at hSw); go_simp; (try (with_reducible rfl)))
    simp only [Act.put, List.getElem_toArray, List.getElem_cons_succ, List.getElem_cons_zero, List.setIfInBounds_toArray, List.set_cons_succ, List.set_cons_zero]
    refine wpAnyH_take (i := 9) (v := ?_) rfl (by kernel_rfl) (by kernel_rfl) (by kernel_rfl) (fun _ _ _ h => h) (Or.inl ⟨by rfl, ?_⟩) (by assumption) ?_
    rotate_left
    · (intro w' hSw; (try dsimp only at hSw); go_simp; (try (with_reducible rfl)))
    simp only [Act.put, List.getElem_toArray, List.getElem_cons_succ, List.getElem_cons_zero, List.setIfInBounds_toArray, List.set_cons_succ, List.set_cons_zero]
    refine wpAnyH_take (i := 10) (v := ?_) rfl (by kernel_rfl) (by kernel_rfl) (by kernel_rfl) (fun _ _ _ h => h) (Or.inl ⟨by rfl, ?_⟩) (by assumption) ?_
    rotate_left
    · (intro w' hSw; (try dsimp only at hSw); go_simp; (try (with_reducible rfl)))
    simp only [Act.put, List.getElem_toArray, List.getElem_cons_succ, List.getElem_cons_zero, List.setIfInBounds_toArray, List.set_cons_succ, List.set_cons_zero]
    refine wpAnyH_take (i := 11) (v := ?_) rfl (by kernel_rfl) (by kernel_rfl) (by kernel_rfl) (fun _ _ _ h => h) (Or.inl ⟨by rfl, ?_⟩) (by assumption) ?_
    rotate_left
    · (intro w' hSw; (try dsimp only at hSw); go_simp; (try (with_reducible rfl)))
    simp only [Act.put, List.getElem_toArray, List.getElem_cons_succ, List.getElem_cons_zero, List.setIfInBounds_toArray, List.set_cons_succ, List.set_cons_zero]
    refine wpAnyH_take (i := 12) (v := ?_) rfl (by kernel_rfl) (by kernel_rfl) (by kernel_rfl) (fun _ _ _ h => h) (Or.inl ⟨by rfl, ?_⟩) (by assumption) ?_
    rotate_left
    · (intro w' hSw; (try dsimp only at hSw); go_simp; (try (with_reducible rfl)))
    simp only [Act.put, List.getElem_toArray, List.getElem_cons_succ, List.getElem_cons_zero, List.setIfInBounds_toArray, List.set_cons_succ, List.set_cons_zero]
    refine wpAnyH_take (i := 13) (v := ?_) rfl (by kernel_rfl) (by kernel_rfl) (by kernel_rfl) (fun _ _ _ h => h) (Or.inl ⟨by rfl, ?_⟩) (by assumption) ?_
    rotate_left
    · (intro w' hSw; (try dsimp only at hSw); go_simp; (try (with_reducible rfl)))
    simp only [Act.put, List.getElem_toArray, List.getElem_cons_succ, List.getElem_cons_zero, List.setIfInBounds_toArray, List.set_cons_succ, List.set_cons_zero]
    refine wpAnyH_take (i := 14) (v := ?_) rfl (by kernel_rfl) (by kernel_rfl) (by kernel_rfl) (fun _ _ _ h => h) (Or.inl ⟨by rfl, ?_⟩) (by assumption) ?_
    rotate_left
    · (intro w' hSw; (try dsimp only at hSw); go_simp; (try (with_reducible rfl)))
    simp only [Act.put, List.getElem_toArray, List.getElem_cons_succ, List.getElem_cons_zero, List.setIfInBounds_toArray, List.set_cons_succ, List.set_cons_zero]
    refine wpAnyH_take (i := 16) (v := ?_) rfl (by kernel_rfl) (by kernel_rfl) (by kernel_rfl) (fun _ _ _ h => h) (Or.inl ⟨by rfl, ?_⟩) (by assumption) ?_
    rotate_left
    · (intro w' hSw; (try dsimp only at hSw); go_simp; (try (with_reducible rfl)))
    simp only [Act.put, List.getElem_toArray, List.getElem_cons_succ, List.getElem_cons_zero, List.setIfInBounds_toArray, List.set_cons_succ, List.set_cons_zero]
    refine wpAnyH_ready (rs := [15]) (by kernel_rfl) (by simp) ?_
    refine AllReadyH.cons rfl (fun K hK => ?_) AllReadyH.nil
    go_simp
    (refine (sign_not0 _).mono ?_; rintro e w4 ⟨rfl, hb4⟩; (try go_simp))
    refine hK.out _ _ ?_ (fun hHeld => ?_)
    · (try dsimp only); exact MK.out _ (keep_below (hHeld.2.2.2.2.2.2.2.2.2.2.2.2) hb4)
    clear hK K
    refine wpAnyH_take (i := 17) (v := ?_) rfl (by kernel_rfl) (by kernel_rfl) (by kernel_rfl) (fun _ _ _ h => h) (Or.inl ⟨by rfl, ?_⟩) (by assumption) ?_
    rotate_left
    · (intro w' hSw; (try dsimp only at hSw); go_simp; (try (with_reducible rfl)))
    simp only [Act.put, List.getElem_toArray, List.getElem_cons_succ, List.getElem_cons_zero, List.setIfInBounds_toArray, List.set_cons_succ, List.set_cons_zero]
    refine wpAnyH_take (i := 18) (v := ?_) rfl (by kernel_rfl) (by kernel_rfl) (by kernel_rfl) (fun _ _ _ h => h) (Or.inl ⟨by rfl, ?_⟩) (by assumption) ?_
    rotate_left
    · (intro w' hSw; (try dsimp only at hSw); go_simp; (try (with_reducible rfl)))
    simp only [Act.put, List.getElem_toArray, List.getElem_cons_succ, List.getElem_cons_zero, List.setIfInBounds_toArray, List.set_cons_succ, List.set_cons_zero]
    refine wpAnyH_take (i := 19) (v := ?_) rfl (by kernel_rfl) (by kernel_rfl) (by kernel_rfl) (fun _ _ _ h => h) (Or.inl ⟨by rfl, ?_⟩) (by assumption) ?_
    rotate_left
    · (intro w' hSw; (try dsimp only at hSw); go_simp; (try (with_reducible rfl)))
    simp only [Act.put, List.getElem_toArray, List.getElem_cons_succ, List.getElem_cons_zero, List.setIfInBounds_toArray, List.set_cons_succ, List.set_cons_zero]
    refine wpAnyH_take (i := 20) (v := ?_) rfl (by kernel_rfl) (by kernel_rfl) (by kernel_rfl) (fun _ _ _ h => h) (Or.inl ⟨by rfl, ?_⟩) (by assumption) ?_
    rotate_left
    · (intro w' hSw; (try dsimp only at hSw); go_simp; (try (with_reducible rfl)))
    simp only [Act.put, List.getElem_toArray, List.getElem_cons_succ, List.getElem_cons_zero, List.setIfInBounds_toArray, List.set_cons_succ, List.set_cons_zero]
    refine wpAnyH_take (i := 23) (v := ?_) rfl (by kernel_rfl) (by kernel_rfl) (by kernel_rfl) (fun _ _ _ h => h) (Or.inl ⟨by rfl, ?_⟩) (by assumption) ?_
    rotate_left
    · (intro w' hSw; (try dsimp only at hSw); go_simp; (try (with_reducible rfl)))
    simp only [Act.put, List.getElem_toArray, List.getElem_cons_succ, List.getElem_cons_zero, List.setIfInBounds_toArray, List.set_cons_succ, List.set_cons_zero]
    refine wpAnyH_ready (rs := [21]) (by kernel_rfl) (by simp) ?_
    refine AllReadyH.cons rfl (fun K hK => ?_) AllReadyH.nil
    go_simp
    (refine (sign_not1 _).mono ?_; rintro e w4 ⟨rfl, hb4⟩; (try go_simp))
    refine hK.out _ _ ?_ (fun hHeld => ?_)
    · (try dsimp only); exact MK.out _ (keep_below (hHeld.2.2.2.2.2.2.2.2.2.2.2.2) hb4)
    clear hK K
    refine wpAnyH_ready (rs := [22]) (by kernel_rfl) (by simp) ?_
    refine AllReadyH.cons rfl (fun K hK => ?_) AllReadyH.nil
    go_simp
    (refine (sign_not0 _).mono ?_; rintro e w4 ⟨rfl, hb4⟩; (try go_simp))
    refine hK.out _ _ ?_ (fun hHeld => ?_)
    · (try dsimp only); exact MK.out _ (keep_below (hHeld.2.2.2.2.2.2.2.2.2.2.2.2) hb4)
    clear hK K
    refine wpAnyH_take (i := 24) (v := ?_) rfl (by kernel_rfl) (by kernel_rfl) (by kernel_rfl) (fun _ _ _ h => h) (Or.inl ⟨by rfl, ?_⟩) (by assumption) ?_
    rotate_left
    · (intro w' hSw; (try dsimp only at hSw); go_simp; (try (with_reducible rfl)))
    simp only [Act.put, List.getElem_toArray, List.getElem_cons_succ, List.getElem_cons_zero, List.setIfInBounds_toArray, List.set_cons_succ, List.set_cons_zero]
    refine wpAnyH_take (i := 25) (v := ?_) rfl (by kernel_rfl) (by kernel_rfl) (by kernel_rfl) (fun _ _ _ h => h) (Or.inl ⟨by rfl, ?_⟩) (by assumption) ?_
    rotate_left
    · (intro w' hSw; (try dsimp only at hSw); go_simp; (try (with_reducible rfl)))
    simp only [Act.put, List.getElem_toArray, List.getElem_cons_succ, List.getElem_cons_zero, List.setIfInBounds_toArray, List.set_cons_succ, List.set_cons_zero]
    refine wpAnyH_take (i := 26) (v := ?_) rfl (by kernel_rfl) (by kernel_rfl) (by kernel_rfl) (fun _ _ _ h => h) (Or.inl ⟨by rfl, ?_⟩) (by assumption) ?_
    rotate_left
    · (intro w' hSw; (try dsimp only at hSw); go_simp; (try (with_reducible rfl)))
    simp only [Act.put, List.getElem_toArray, List.getElem_cons_succ, List.getElem_cons_zero, List.setIfInBounds_toArray, List.set_cons_succ, List.set_cons_zero]
    refine wpAnyH_take (i := 27) (v := ?_) rfl (by kernel_rfl) (by kernel_rfl) (by kernel_rfl) (fun _ _ _ h => h) (Or.inl ⟨by rfl, ?_⟩) (by assumption) ?_
    rotate_left
    · (intro w' hSw; (try dsimp only at hSw); go_simp; (try (with_reducible rfl)))
    simp only [Act.put, List.getElem_toArray, List.getElem_cons_succ, List.getElem_cons_zero, List.setIfInBounds_toArray, List.set_cons_succ, List.set_cons_zero]
    refine wpAnyH_take (i := 28) (v := ?_) rfl (by kernel_rfl) (by kernel_rfl) (by kernel_rfl) (fun _ _ _ h => h) (Or.inl ⟨by rfl, ?_⟩) (by assumption) ?_
    rotate_left
    · (intro w' hSw; (try dsimp only at hSw); go_simp; (try (with_reducible rfl)))
    simp only [Act.put, List.getElem_toArray, List.getElem_cons_succ, List.getElem_cons_zero, List.setIfInBounds_toArray, List.set_cons_succ, List.set_cons_zero]
    refine wpAnyH_take (i := 29) (v := ?_) rfl (by kernel_rfl) (by kernel_rfl) (by kernel_rfl) (fun _ _ _ h => h) (Or.inl ⟨by rfl, ?_⟩) (by assumption) ?_
    rotate_left
    · (intro w' hSw; (try dsimp only at hSw); go_simp; (try (with_reducible rfl)))
    simp only [Act.put, List.getElem_toArray, List.getElem_cons_succ, List.getElem_cons_zero, List.setIfInBounds_toArray, List.set_cons_succ, List.set_cons_zero]
    refine wpAnyH_take (i := 30) (v := ?_) rfl (by kernel_rfl) (by kernel_rfl) (by kernel_rfl) (fun _ _ _ h => h) (Or.inl ⟨by rfl, ?_⟩) (by assumption) ?_
    rotate_left
    · (intro w' hSw; (try dsimp only at hSw); go_simp; (try (with_reducible rfl)))
    simp only [Act.put, List.getElem_toArray, List.getElem_cons_succ, List.getElem_cons_zero, List.setIfInBounds_toArray, List.set_cons_succ, List.set_cons_zero]
    refine wpAnyH_take (i := 31) (v := ?_) rfl (by kernel_rfl) (by kernel_rfl) (by kernel_rfl) (fun _ _ _ h => h) (Or.inl ⟨by rfl, ?_⟩) (by assumption) ?_
    rotate_left
    · (intro w' hSw; (try dsimp only at hSw); go_simp; (try (with_reducible rfl)))
    simp only [Act.put, List.getElem_toArray, List.getElem_cons_succ, List.getElem_cons_zero, List.setIfInBounds_toArray, List.set_cons_succ, List.set_cons_zero]
    refine wpAnyH_ready (rs := [32]) (by kernel_rfl) (by simp) ?_
    refine AllReadyH.cons rfl (fun K hK => ?_) AllReadyH.nil
    go_simp
    (refine (bool_0 _).mono ?_; rintro e w4 ⟨rfl, hb4⟩; (try go_simp))
    refine hK.out _ _ ?_ (fun hHeld => ?_)
    · (try dsimp only); exact MK.out _ (keep_below (hHeld.2.2.2.2.2.2.2.2.2.2.2.2) hb4)
    clear hK K
    refine wpAnyH_take (i := 33) (v := ?_) rfl (by kernel_rfl) (by kernel_rfl) (by kernel_rfl) (fun _ _ _ h => h) (Or.inl ⟨by rfl, ?_⟩) (by assumption) ?_
    rotate_left
    · (intro w' hSw; (try dsimp only at hSw); go_simp; (try (with_reducible rfl)))
    simp only [Act.put, List.getElem_toArray, List.getElem_cons_succ, List.getElem_cons_zero, List.setIfInBounds_toArray, List.set_cons_succ, List.set_cons_zero]
    refine wpAnyH_take (i := 34) (v := ?_) rfl (by kernel_rfl) (by kernel_rfl) (by kernel_rfl) (fun _ _ _ h => h) (Or.inl ⟨by rfl, ?_⟩) (by assumption) ?_
    rotate_left
    · (intro w' hSw; (try dsimp only at hSw); go_simp; (try (with_reducible rfl)))
    simp only [Act.put, List.getElem_toArray, List.getElem_cons_succ, List.getElem_cons_zero, List.setIfInBounds_toArray, List.set_cons_succ, List.set_cons_zero]
    refine wpAnyH_take (i := 35) (v := ?_) rfl (by kernel_rfl) (by kernel_rfl) (by kernel_rfl) (fun _ _ _ h => h) (Or.inl ⟨by rfl, ?_⟩) (by assumption) ?_
    rotate_left
    · (intro w' hSw; (try dsimp only at hSw); go_simp; (try (with_reducible rfl)))
    simp only [Act.put, List.getElem_toArray, List.getElem_cons_succ, List.getElem_cons_zero, List.setIfInBounds_toArray, List.set_cons_succ, List.set_cons_zero]
    refine wpAnyH_take (i := 36) (v := ?_) rfl (by kernel_rfl) (by kernel_rfl) (by kernel_rfl) (fun _ _ _ h => h) (Or.inl ⟨by rfl, ?_⟩) (by assumption) ?_
    rotate_left
    · (intro w' hSw; (try dsimp only at hSw); go_simp; (try (with_reducible rfl)))
    simp only [Act.put, List.getElem_toArray, List.getElem_cons_succ, List.getElem_cons_zero, List.setIfInBounds_toArray, List.set_cons_succ, List.set_cons_zero]
    refine wpAnyH_take (i := 37) (v := ?_) rfl (by kernel_rfl) (by kernel_rfl) (by kernel_rfl) (fun _ _ _ h => h) (Or.inl ⟨by rfl, ?_⟩) (by assumption) ?_
    rotate_left
    · (intro w' hSw; (try dsimp only at hSw); go_simp; (try (with_reducible rfl)))
    simp only [Act.put, List.getElem_toArray, List.getElem_cons_succ, List.getElem_cons_zero, List.setIfInBounds_toArray, List.set_cons_succ, List.set_cons_zero]
    refine wpAnyH_take (i := 38) (v := ?_) rfl (by kernel_rfl) (by kernel_rfl) (by kernel_rfl) (fun _ _ _ h => h) (Or.inl ⟨by rfl, ?_⟩) (by assumption) ?_
    rotate_left
    · (intro w' hSw; (try dsimp only at hSw); go_simp; (try (with_reducible rfl)))
    simp only [Act.put, List.getElem_toArray, List.getElem_cons_succ, List.getElem_cons_zero, List.setIfInBounds_toArray, List.set_cons_succ, List.set_cons_zero]
    refine wpAnyH_take (i := 39) (v := undef) rfl (by kernel_rfl) (by kernel_rfl) (by kernel_rfl) (fun _ _ _ h => h) (Or.inr ⟨by rfl, rfl⟩) (by assumption) ?_
    simp only [Act.put, List.getElem_toArray, List.getElem_cons_succ, List.getElem_cons_zero, List.setIfInBounds_toArray, List.set_cons_succ, List.set_cons_zero]
    refine wpAnyH_take (i := 40) (v := ?_) rfl (by kernel_rfl) (by kernel_rfl) (by kernel_rfl) (fun _ _ _ h => h) (Or.inl ⟨by rfl, ?_⟩) (by assumption) ?_
    rotate_left
    · (intro w' hSw; (try dsimp only at hSw); go_simp; (try (with_reducible rfl)))
    simp only [Act.put, List.getElem_toArray, List.getElem_cons_succ, List.getElem_cons_zero, List.setIfInBounds_toArray, List.set_cons_succ, List.set_cons_zero]
    refine wpAnyH_ready (rs := [41]) (by kernel_rfl) (by simp) ?_
    refine AllReadyH.cons rfl (fun K hK => ?_) AllReadyH.nil
    go_simp
    (refine (bool_1 _).mono ?_; rintro e w4 ⟨rfl, hb4⟩; (try go_simp))
    refine hK.out _ _ ?_ (fun hHeld => ?_)
    · (try dsimp only); exact MK.out _ (keep_below (hHeld.2.2.2.2.2.2.2.2.2.2.2.2) hb4)
    clear hK K
    refine wpAnyH_take (i := 42) (v := ?_) rfl (by kernel_rfl) (by kernel_rfl) (by kernel_rfl) (fun _ _ _ h => h) (Or.inl ⟨by rfl, ?_⟩) (by assumption) ?_
    rotate_left
    · (intro w' hSw; (try dsimp only at hSw); go_simp; (try (with_reducible rfl)))
    simp only [Act.put, List.getElem_toArray, List.getElem_cons_succ, List.getElem_cons_zero, List.setIfInBounds_toArray, List.set_cons_succ, List.set_cons_zero]
    refine wpAnyH_take (i := 43) (v := ?_) rfl (by kernel_rfl) (by kernel_rfl) (by kernel_rfl) (fun _ _ _ h => h) (Or.inl ⟨by rfl, ?_⟩) (by assumption) ?_
    rotate_left
    · (intro w' hSw; (try dsimp only at hSw); go_simp; (try (with_reducible rfl)))
    simp only [Act.put, List.getElem_toArray, List.getElem_cons_succ, List.getElem_cons_zero, List.setIfInBounds_toArray, List.set_cons_succ, List.set_cons_zero]
    refine wpAnyH_take (i := 44) (v := ?_) rfl (by kernel_rfl) (by kernel_rfl) (by kernel_rfl) (fun _ _ _ h => h) (Or.inl ⟨by rfl, ?_⟩) (by assumption) ?_
    rotate_left
    · (intro w' hSw; (try dsimp only at hSw); go_simp; (try (with_reducible rfl)))
    simp only [Act.put, List.getElem_toArray, List.getElem_cons_succ, List.getElem_cons_zero, List.setIfInBounds_toArray, List.set_cons_succ, List.set_cons_zero]
    refine wpAnyH_done (by kernel_rfl) ?_ _
    have hb : Below W5.heap.size W5 w4 := (by assumption : w4.cell? ⟨x2.heap.size, 0, none⟩ = some (.int .i64 2) ∧ w4.cell? ⟨x2.heap.size, 1, none⟩ = some (.int .i64 1) ∧ w4.cell? ⟨x2.heap.size, 2, none⟩ = some (.string { data := #[] }) ∧ w4.cell? ⟨x4.heap.size, 0, none⟩ = some (.int .i64 2) ∧ w4.cell? ⟨x4.heap.size, 1, none⟩ = some (.int .i64 0) ∧ w4.cell? ⟨x4.heap.size, 2, none⟩ = some (.string { data := #[] }) ∧ w4.cell? ⟨g, 0, none⟩ = some (.int .i64 2) ∧ w4.cell? ⟨g, 1, none⟩ = some (.int .i64 1) ∧ w4.cell? ⟨g, 2, none⟩ = some (.string { data := #[] }) ∧ w4.cell? ⟨x5.heap.size, 0, none⟩ = some (.int .i64 2) ∧ w4.cell? ⟨x5.heap.size, 1, none⟩ = some (.int .i64 1) ∧ w4.cell? ⟨x5.heap.size, 2, none⟩ = some (.string { data := #[] }) ∧ Below W5.heap.size W5 w4).2.2.2.2.2.2.2.2.2.2.2.2
    replace d10 := keep_cell hb y1 d10
    replace d11 := keep_cell hb y1 d11
    replace d12 := keep_cell hb y1 d12
    replace y1 := Nat.lt_of_lt_of_le y1 hb.size
    replace d30 := keep_cell hb y3 d30
    replace d31 := keep_cell hb y3 d31
    replace d32 := keep_cell hb y3 d32
    replace y3 := Nat.lt_of_lt_of_le y3 hb.size
    replace d40 := keep_cell hb y4 d40
    replace d41 := keep_cell hb y4 d41
    replace d42 := keep_cell hb y4 d42
    replace y4 := Nat.lt_of_lt_of_le y4 hb.size
    replace d50 := keep_cell hb y5 d50
    replace d51 := keep_cell hb y5 d51
    replace d52 := keep_cell hb y5 d52
    replace y5 := Nat.lt_of_lt_of_le y5 hb.size
    replace B := keep_below B hb
    clear hb
    go_wp2
    go_ret
    exact ⟨rfl, B⟩
end Go.Proofs.YtpighdioomjnmaaDoor.logic
