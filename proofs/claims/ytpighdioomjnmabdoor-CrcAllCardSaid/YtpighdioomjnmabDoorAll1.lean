/-
  Layer 20: the walk of CrcAll, one of its three ways. Written by an AI agent.
-/
import Derived.Test.YtpighdioomjnmabDoorAllD
namespace Go.Proofs.YtpighdioomjnmabDoor
open Go.RowKit

set_option maxRecDepth 100000 in
set_option maxHeartbeats 16000000 in
theorem all_walk1 (A1 : Option Addr) (c1 : Nat) (a : List Nat) (n : Nat) (w : World) (hn : n < 4294967296)
    (m1 : a.length ≤ 9223372036854775807) (k1 : a.length ≤ c1) (z1 : A1 = none → c1 = 0)
    (l1 : ∀ v ∈ a, v < 256) (r1 : Rd w w.heap.size A1 a) (ht : HasTab w) (h0 : 0 < w.heap.size) (hq : ¬ Short (a.take 2000) ∧ Good (a.take 2000)) :
    Calls Tryd.prog 3 #[.slice A1 a.length c1, .int .u32 (n : Int)] w fun e w' => e = .returned (.bool true) ∧ Below w.heap.size w w' := by
  obtain ⟨i0, hi, hz0, hz1, hz2⟩ := info_parts info5
  have S1 := Lib.hid (fun w => short_rd c1 A1 a w m1 k1)
  obtain ⟨x, hx⟩ : ∃ x : List Nat, x = a.take 2000 := ⟨_, rfl⟩
  have e1 : x.length ≤ 2000 := by rw [hx]; simp; omega
  have e2 : x.length ≤ c1 := by rw [hx]; simp; omega
  have L1 := Lib.hid (show ∀ v ∈ x, v < 256 by rw [hx]; exact lt_take l1 2000)
  have R1 := Lib.hid (show Rd w w.heap.size A1 x by rw [hx]; exact r1.take 2000)
  rw [← hx] at S1 hq
  have HC := Lib.hid hq
  have Z1 := Lib.hid z1
  have HT := Lib.hid ht
  clear hx l1 r1 ht z1 hq
  obtain ⟨ln, hln⟩ : ∃ ln : Nat, x.length = ln := ⟨_, rfl⟩
  obtain ⟨g1, hg1⟩ : ∃ g : Nat, goN n x = g := ⟨_, rfl⟩
  obtain ⟨g0, hg0⟩ : ∃ g : Nat, goN 0 x = g := ⟨_, rfl⟩
  obtain ⟨q, hq⟩ : ∃ q : List Nat, x ++ le4 (goN 0 x) = q := ⟨_, rfl⟩
  have HLN := Lib.hid hln
  have HG1 := Lib.hid hg1
  have HG0 := Lib.hid hg0
  have HQ := Lib.hid hq
  rw [hln] at S1
  have e3 : ln ≤ 2000 := by omega
  have e4 : ln ≤ c1 := by omega
  clear hg1 hg0 hq hln
  go_enter Tryd.func3, Tryd.ntmps3
  go_wp2_with fail
  refine (shown_any w HT.out h0).mono ?_
  rintro e w1 ⟨rfl, hb1⟩
  go_wp2_with fail
  refine (S1.out _).mono ?_
  rintro e w1' ⟨rfl, rfl⟩
  have own0 : (w1.alloc (.cells #[] 5)).ownsRow w.heap.size 5 1 (.slice (some ⟨w1.heap.size, 0, none⟩) 0 0) ([] : List Nat).length (cellsOf []) := World.ownsRow_lit w1 #[] 0 hb1.size (by unfold maxLen; omega) rfl
  have hb1' : Below w.heap.size w (w1.alloc (.cells #[] 5)) := hb1.alloc hb1.size _
  have HSL : Hid (∀ (A : Option Addr) (cc : Nat), Value.slice A ln cc = .slice A x.length cc) := fun A cc => by rw [HLN.out]
  go_wp2_with (at_builtin; refine wpList_append_rd rfl (.tmp 14) (.tmp 15) rfl w.heap.size i0 hi hz0 hz1 hz2 (.slice (some ⟨w1.heap.size, 0, none⟩) 0 0) [] rfl own0 w.heap.size A1 c1 x (HSL.out _ _) Z1.out (R1.out.below hb1') (by simp; omega) hb1'.size ?_
               intro v3 w3 hown3 hg3
               have hb3 : Below w.heap.size w w3 := hb1'.grown hg3 hb1'.size (fun k hk => (own0.lt k hk).1)
               rw [List.nil_append] at hown3
               obtain ⟨A8, c8, hv8, k8, m8, z8, _, R8⟩ := rd_own hown3
               rw [HLN.out] at hv8
               rw [hv8]
               clear hv8 hown3)
  by_cases hs : ln < 4
  · exact absurd (show Short x by unfold Short; rw [HLN.out]; exact hs) HC.out.1
  · obtain ⟨m, hm⟩ : ∃ m : Nat, ln = m + 4 := ⟨ln - 4, by omega⟩
    obtain ⟨u, hu⟩ : ∃ u : List Nat, u = x.take m := ⟨_, rfl⟩
    obtain ⟨y, hy⟩ : ∃ y : List Nat, y = x.drop m := ⟨_, rfl⟩
    have hul : u.length = m := by rw [hu, List.length_take, HLN.out]; omega
    have hyl : y.length = 4 := by rw [hy, List.length_drop, HLN.out]; omega
    have huy : u ++ y = x := by rw [hu, hy]; exact List.take_append_drop _ _
    have huv : ∀ v ∈ u, v < 256 := by rw [hu]; exact lt_take L1.out _
    have hyv : ∀ v ∈ y, v < 256 := by rw [hy]; exact fun v hv => L1.out v (List.mem_of_mem_drop hv)
    obtain ⟨b8, o8, rfl, hb8, hc8⟩ := R8 (by rw [HLN.out]; omega)
    obtain ⟨b1, o1, hA1, hbb1, hcc1⟩ := R1.out (by rw [HLN.out]; omega)
    subst hA1
    rw [← huy] at hc8 hcc1
    have T3 := HT.out.below h0 hb3
    have HUL := Lib.hid hul
    have HM := Lib.hid hm
    have k8' : m + 4 ≤ c8 := by rw [HLN.out] at k8; omega
    have RT := Lib.hid (fun (w' : World) (h : Below w.heap.size w w') => ref_take b1 o1 c1 m u y w' hul hyl (by omega) (by omega) huv hyv (Nat.lt_of_lt_of_le hbb1 h.size) (has_below hcc1 h hbb1))
    rw [← hm] at RT
    have hRu : Rd w w.heap.size (some ⟨b1, o1, none⟩) u := fun _ => ⟨b1, o1, rfl, hbb1, has_left hcc1⟩
    by_cases hch : y = le4 (goN 0 u)
    · have TK := take_ok b8 o8 c8 m u w3 hul (by omega) k8' huv hb8 (by rw [← hch]; exact hc8) T3 (Nat.lt_of_lt_of_le h0 hb3.size)
      rw [← hm] at TK
      rw [decide_eq_true hch] at RT
      have TKH := Lib.hid TK
      have HRU := Lib.hid hRu
      clear TK hc8 hcc1 T3 hch huy huv hyv hul hyl hu hy hm hRu own0 hs
      refine TKH.out.mono ?_
      rintro e w5 ⟨A10, c10, rfl, R10, hb5⟩
      rw [HUL.out]
      have hb5' := hb3.trans (hb5.mono hb3.size)
      go_wp2_with fail
      refine (RT.out _ hb5').mono ?_
      rintro e w6 ⟨rfl, hb6'⟩
      simp only [if_true]
      have hb6 := hb5'.trans (hb6'.mono hb5'.size)
      have R10' := R10.below hb6'
      go_wp2_with fail
      obtain ⟨W, hW⟩ : ∃ W : World, W = w6 := ⟨_, rfl⟩
      rw [← hW]
      have hbW : Below w.heap.size w W := by rw [hW]; exact hb6
      have MK := Lib.hid (fun (w' : World) (h : Below W.heap.size W w') => And.intro (show (convert 22 9 (.slice A10 m c10)).run Tryd.prog w' = .ok (.string (strN u)) w' by
        have t := conv_rd w' w5.heap.size c10 A10 u (R10'.below ((show Below w5.heap.size w6 w' by rw [← hW]; exact h.mono (by rw [hW]; exact hb6'.size))))
        rw [HUL.out] at t
        exact t) (And.intro (show (convert 22 9 (.slice (some ⟨b1, o1, none⟩) m c1)).run Tryd.prog w' = .ok (.string (strN u)) w' by
        have t := conv_rd w' w.heap.size c1 (some ⟨b1, o1, none⟩) u (HRU.out.below (hbW.trans (h.mono hbW.size)))
        rw [HUL.out] at t
        exact t) h))
      have RX := Lib.hid (fun (w' : World) (h : Below W.heap.size W w') => R1.out.below (hbW.trans (h.mono hbW.size)))
      have TX := Lib.hid (fun (w' : World) (h : Below W.heap.size W w') => HT.out.below h0 (hbW.trans (h.mono hbW.size)))
      have SZ := Lib.hid (fun (w' : World) (h : Below W.heap.size W w') => Nat.le_trans hbW.size h.size)
      have GO := Lib.hid (fun (w' : World) (h : Below W.heap.size W w') => show Calls Tryd.prog 11 #[.int .u32 (n : Int), .slice (some ⟨b1, o1, none⟩) ln c1] w' fun e w'' => e = .returned (.int .u32 (g1 : Int)) ∧ w' = w'' by
        have t := go_rd w.heap.size c1 (some ⟨b1, o1, none⟩) x n w' (by omega) hn L1.out (RX.out w' h) (TX.out w' h)
        rw [HLN.out, HG1.out] at t
        exact t)
      have RG := Lib.hid (fun (w' : World) (h : Below W.heap.size W w') => show Calls Tryd.prog 12 #[.int .u32 (n : Int), .slice (some ⟨b1, o1, none⟩) ln c1] w' fun e w'' => e = .returned (.int .u32 (g1 : Int)) ∧ w' = w'' by
        have t := ref_go_rd w.heap.size c1 (some ⟨b1, o1, none⟩) x n w' (by omega) hn L1.out (RX.out w' h)
        rw [HLN.out, HG1.out] at t
        exact t)
      have OF := Lib.hid (fun (w' : World) (h : Below W.heap.size W w') => show Calls Tryd.prog 13 #[.slice (some ⟨b1, o1, none⟩) ln c1] w' fun e w'' => e = .returned (.int .u32 (g0 : Int)) ∧ w' = w'' by
        have t := of_rd w.heap.size c1 (some ⟨b1, o1, none⟩) x w' (by omega) L1.out (RX.out w' h) (TX.out w' h)
        rw [HLN.out, HG0.out] at t
        exact t)
      have RZ := Lib.hid (fun (w' : World) (h : Below W.heap.size W w') => show Calls Tryd.prog 12 #[.int .u32 0, .slice (some ⟨b1, o1, none⟩) ln c1] w' fun e w'' => e = .returned (.int .u32 (g0 : Int)) ∧ w' = w'' by
        have t := ref_go_zero w.heap.size c1 (some ⟨b1, o1, none⟩) x w' (by omega) L1.out (RX.out w' h)
        rw [HLN.out, HG0.out] at t
        exact t)
      have PU := Lib.hid (fun (w' : World) (h : Below W.heap.size W w') => show Calls Tryd.prog 14 #[.slice (some ⟨b1, o1, none⟩) ln c1] w' (Gives w' q) by
        have t := put_rd w.heap.size c1 (some ⟨b1, o1, none⟩) x w' (by omega) Z1.out L1.out (RX.out w' h) (TX.out w' h) (SZ.out w' h) (Nat.lt_of_lt_of_le h0 (SZ.out w' h))
        rw [HLN.out, HQ.out] at t
        exact t)
      have RP := Lib.hid (fun (w' : World) (h : Below W.heap.size W w') => show Calls Tryd.prog 15 #[.slice (some ⟨b1, o1, none⟩) ln c1] w' (Gives w' q) by
        have t := ref_put_rd w.heap.size c1 (some ⟨b1, o1, none⟩) x w' (by omega) Z1.out L1.out (RX.out w' h) (SZ.out w' h)
        rw [HLN.out, HQ.out] at t
        exact t)
      have HBW := Lib.hid hbW
      clear hW hbW
      refine wp_region_held_drew (S := fun w' => (convert 22 9 (.slice A10 m c10)).run Tryd.prog w' = .ok (.string (strN u)) w' ∧ (convert 22 9 (.slice (some ⟨b1, o1, none⟩) m c1)).run Tryd.prog w' = .ok (.string (strN u)) w' ∧ Below W.heap.size W w') (by kernel_rfl) (MK.out _ (Below.refl _ W).drew) (fun hHeld => ?_)
      refine wpAnyH_take (i := 0) (v := ?_) rfl (by kernel_rfl) (by kernel_rfl) (by kernel_rfl) (fun _ _ _ h => h) (Or.inl ⟨by rfl, ?_⟩) (by assumption) ?_
      rotate_left
      · (intro w' hSw; (try dsimp only at hSw); go_simp; (try (with_reducible rfl)))
      simp only [Act.put, List.getElem_toArray, List.getElem_cons_zero, List.setIfInBounds_toArray, List.set_cons_succ, List.set_cons_zero]
      refine wpAnyH_take (i := 1) (v := ?_) rfl (by kernel_rfl) (by kernel_rfl) (by kernel_rfl) (fun _ _ _ h => h) (Or.inl ⟨by rfl, ?_⟩) (by assumption) ?_
      rotate_left
      · (intro w' hSw; (try dsimp only at hSw); go_simp; (try (with_reducible rfl)))
      simp only [Act.put, List.getElem_toArray, List.getElem_cons_succ, List.getElem_cons_zero, List.setIfInBounds_toArray, List.set_cons_succ, List.set_cons_zero]
      refine wpAnyH_take (i := 2) (v := ?_) rfl (by kernel_rfl) (by kernel_rfl) (by kernel_rfl) (fun _ _ _ h => h) (Or.inl ⟨by rfl, ?_⟩) (by assumption) ?_
      rotate_left
      · (intro w' hSw; (try dsimp only at hSw); go_simp; (try (with_reducible rfl)))
      simp only [Act.put, List.getElem_toArray, List.getElem_cons_succ, List.getElem_cons_zero, List.setIfInBounds_toArray, List.set_cons_succ, List.set_cons_zero]
      refine wpAnyH_take (i := 3) (v := ?_) rfl (by kernel_rfl) (by kernel_rfl) (by kernel_rfl) (fun _ _ _ h => h) (Or.inl ⟨by rfl, ?_⟩) (by assumption) ?_
      rotate_left
      · (intro w' hSw; (try dsimp only at hSw); go_simp; (try (with_reducible rfl)))
      simp only [Act.put, List.getElem_toArray, List.getElem_cons_succ, List.getElem_cons_zero, List.setIfInBounds_toArray, List.set_cons_succ, List.set_cons_zero]
      refine wpAnyH_take (i := 5) (v := ?_) rfl (by kernel_rfl) (by kernel_rfl) (by kernel_rfl) (fun _ _ _ h => h) (Or.inl ⟨by rfl, ?_⟩) (by assumption) ?_
      rotate_left
      · (intro w' hSw; (try dsimp only at hSw); go_simp; (try (with_reducible rfl)))
      simp only [Act.put, List.getElem_toArray, List.getElem_cons_succ, List.getElem_cons_zero, List.setIfInBounds_toArray, List.set_cons_succ, List.set_cons_zero]
      refine wpAnyH_take (i := 6) (v := ?_) rfl (by kernel_rfl) (by kernel_rfl) (by kernel_rfl) (fun _ _ _ h => h) (Or.inl ⟨by rfl, ?_⟩) (by assumption) ?_
      rotate_left
      · (intro w' hSw; (try dsimp only at hSw); go_simp; (try (with_reducible rfl)))
      simp only [Act.put, List.getElem_toArray, List.getElem_cons_succ, List.getElem_cons_zero, List.setIfInBounds_toArray, List.set_cons_succ, List.set_cons_zero]
      refine wpAnyH_ready (rs := [4]) (by kernel_rfl) (by simp) ?_
      refine AllReadyH.cons rfl (fun K hK => ?_) ?_
      · go_simp
        refine (GO.out _ ((Below.refl _ W).drew)).mono ?_
        rintro e w4 ⟨rfl, rfl⟩
        refine hK.out _ _ (MK.out _ ((Below.refl _ W).drew)) (fun hHeld4 => ?_)
        clear hK K
        refine wpAnyH_ready (rs := [7]) (by kernel_rfl) (by simp) ?_
        refine AllReadyH.cons rfl (fun K hK => ?_) ?_
        · go_simp
          refine (RG.out _ ((Below.refl _ W).drew)).mono ?_
          rintro e w4 ⟨rfl, rfl⟩
          refine hK.out _ _ (MK.out _ ((Below.refl _ W).drew)) (fun hHeld7 => ?_)
          clear hK K
          refine wpAnyH_take (i := 8) (v := ?_) rfl (by kernel_rfl) (by kernel_rfl) (by kernel_rfl) (fun _ _ _ h => h) (Or.inl ⟨by rfl, ?_⟩) (by assumption) ?_
          rotate_left
          · (intro w' hSw; (try dsimp only at hSw); go_simp; (try (with_reducible rfl)))
          simp only [Act.put, List.getElem_toArray, List.getElem_cons_succ, List.getElem_cons_zero, List.setIfInBounds_toArray, List.set_cons_succ, List.set_cons_zero]
          refine wpAnyH_take (i := 9) (v := ?_) rfl (by kernel_rfl) (by kernel_rfl) (by kernel_rfl) (fun _ _ _ h => h) (Or.inl ⟨by rfl, ?_⟩) (by assumption) ?_
          rotate_left
          · (intro w' hSw; (try dsimp only at hSw); go_simp; (try (with_reducible rfl)))
          simp only [Act.put, List.getElem_toArray, List.getElem_cons_succ, List.getElem_cons_zero, List.setIfInBounds_toArray, List.set_cons_succ, List.set_cons_zero]
          refine wpAnyH_take (i := 10) (v := ?_) rfl (by kernel_rfl) (by kernel_rfl) (by kernel_rfl) (fun _ _ _ h => h) (Or.inl ⟨by rfl, ?_⟩) (by assumption) ?_
          rotate_left
          · (intro w' hSw; (try dsimp only at hSw); go_simp; (try (with_reducible rfl)))
          simp only [Act.put, List.getElem_toArray, List.getElem_cons_succ, List.getElem_cons_zero, List.setIfInBounds_toArray, List.set_cons_succ, List.set_cons_zero]
          refine wpAnyH_take (i := 11) (v := ?_) rfl (by kernel_rfl) (by kernel_rfl) (by kernel_rfl) (fun _ _ _ h => h) (Or.inl ⟨by rfl, ?_⟩) (by assumption) ?_
          rotate_left
          · (intro w' hSw; (try dsimp only at hSw); go_simp; (try (with_reducible rfl)))
          simp only [Act.put, List.getElem_toArray, List.getElem_cons_succ, List.getElem_cons_zero, List.setIfInBounds_toArray, List.set_cons_succ, List.set_cons_zero]
          refine wpAnyH_take (i := 13) (v := ?_) rfl (by kernel_rfl) (by kernel_rfl) (by kernel_rfl) (fun _ _ _ h => h) (Or.inl ⟨by rfl, ?_⟩) (by assumption) ?_
          rotate_left
          · (intro w' hSw; (try dsimp only at hSw); go_simp; (try (with_reducible rfl)))
          simp only [Act.put, List.getElem_toArray, List.getElem_cons_succ, List.getElem_cons_zero, List.setIfInBounds_toArray, List.set_cons_succ, List.set_cons_zero]
          refine wpAnyH_ready (rs := [12]) (by kernel_rfl) (by simp) ?_
          refine AllReadyH.cons rfl (fun K hK => ?_) ?_
          · go_simp
            refine (OF.out _ ((Below.refl _ W).drew)).mono ?_
            rintro e w4 ⟨rfl, rfl⟩
            refine hK.out _ _ (MK.out _ ((Below.refl _ W).drew)) (fun hHeld12 => ?_)
            clear hK K
            refine wpAnyH_ready (rs := [14]) (by kernel_rfl) (by simp) ?_
            refine AllReadyH.cons rfl (fun K hK => ?_) ?_
            · go_simp
              refine (RZ.out _ ((Below.refl _ W).drew)).mono ?_
              rintro e w4 ⟨rfl, rfl⟩
              refine hK.out _ _ (MK.out _ ((Below.refl _ W).drew)) (fun hHeld14 => ?_)
              clear hK K
              refine wpAnyH_take (i := 15) (v := ?_) rfl (by kernel_rfl) (by kernel_rfl) (by kernel_rfl) (fun _ _ _ h => h) (Or.inl ⟨by rfl, ?_⟩) (by assumption) ?_
              rotate_left
              · (intro w' hSw; (try dsimp only at hSw); go_simp; (try (with_reducible rfl)))
              simp only [Act.put, List.getElem_toArray, List.getElem_cons_succ, List.getElem_cons_zero, List.setIfInBounds_toArray, List.set_cons_succ, List.set_cons_zero]
              refine wpAnyH_take (i := 16) (v := ?_) rfl (by kernel_rfl) (by kernel_rfl) (by kernel_rfl) (fun _ _ _ h => h) (Or.inl ⟨by rfl, ?_⟩) (by assumption) ?_
              rotate_left
              · (intro w' hSw; (try dsimp only at hSw); go_simp; (try (with_reducible rfl)))
              simp only [Act.put, List.getElem_toArray, List.getElem_cons_succ, List.getElem_cons_zero, List.setIfInBounds_toArray, List.set_cons_succ, List.set_cons_zero]
              refine wpAnyH_take (i := 17) (v := ?_) rfl (by kernel_rfl) (by kernel_rfl) (by kernel_rfl) (fun _ _ _ h => h) (Or.inl ⟨by rfl, ?_⟩) (by assumption) ?_
              rotate_left
              · (intro w' hSw; (try dsimp only at hSw); go_simp; (try (with_reducible rfl)))
              simp only [Act.put, List.getElem_toArray, List.getElem_cons_succ, List.getElem_cons_zero, List.setIfInBounds_toArray, List.set_cons_succ, List.set_cons_zero]
              refine wpAnyH_take (i := 18) (v := ?_) rfl (by kernel_rfl) (by kernel_rfl) (by kernel_rfl) (fun _ _ _ h => h) (Or.inl ⟨by rfl, ?_⟩) (by assumption) ?_
              rotate_left
              · (intro w' hSw; (try dsimp only at hSw); go_simp; (try (with_reducible rfl)))
              simp only [Act.put, List.getElem_toArray, List.getElem_cons_succ, List.getElem_cons_zero, List.setIfInBounds_toArray, List.set_cons_succ, List.set_cons_zero]
              refine wpAnyH_take (i := 21) (v := ?_) rfl (by kernel_rfl) (by kernel_rfl) (by kernel_rfl) (fun _ _ _ h => h) (Or.inl ⟨by rfl, ?_⟩) (by assumption) ?_
              rotate_left
              · (intro w' hSw; (try dsimp only at hSw); go_simp; (try (with_reducible rfl)))
              simp only [Act.put, List.getElem_toArray, List.getElem_cons_succ, List.getElem_cons_zero, List.setIfInBounds_toArray, List.set_cons_succ, List.set_cons_zero]
              refine wpAnyH_ready (rs := [19]) (by kernel_rfl) (by simp) ?_
              refine AllReadyH.cons rfl (fun K hK => ?_) ?_
              · go_simp
                refine (PU.out _ ((Below.refl _ W).drew)).mono ?_
                rintro e hpw ⟨A9, A9c, rfl, A9k, A9m, A9z, A9R, hp⟩
                have hpq := fun w' (h : Below hpw.heap.size hpw w') => conv_rd w' hpw.heap.size A9c A9 q (A9R.below h)
                have hp0 := hpq _ (Below.refl _ _)
                refine hK.out _ _ (MK.out _ (keep_below ((Below.refl _ W).drew) hp)) (fun hHeld19 => ?_)
                clear hK K
                refine wpAnyH_ready (rs := [20, 22]) (by kernel_rfl) (by simp) ?_
                refine AllReadyH.cons rfl (fun K hK => ?_) ?_
                · go_simp
                  refine hK.out _ _ (MK.out _ (keep_below ((Below.refl _ W).drew) hp)) (fun hHeld20 => ?_)
                  clear hK K
                  refine wpAnyH_ready (rs := [22]) (by kernel_rfl) (by simp) ?_
                  refine AllReadyH.cons rfl (fun K hK => ?_) ?_
                  · go_simp
                    refine (RP.out _ (keep_below ((Below.refl _ W).drew) hp)).mono ?_
                    rintro e hrw ⟨A7, A7c, rfl, A7k, A7m, A7z, A7R, hr⟩
                    have hrq := fun w' (h : Below hrw.heap.size hrw w') => conv_rd w' hrw.heap.size A7c A7 q (A7R.below h)
                    have hr0 := hrq _ (Below.refl _ _)
                    have hr1 := hpq _ hr
                    refine hK.out _ _ (MK.out _ (keep_below (keep_below ((Below.refl _ W).drew) hp) hr)) (fun hHeld22 => ?_)
                    clear hK K
                    refine wpAnyH_ready (rs := [23]) (by kernel_rfl) (by simp) ?_
                    refine AllReadyH.cons rfl (fun K hK => ?_) ?_
                    · go_simp
                      refine hK.out _ _ (MK.out _ (keep_below (keep_below ((Below.refl _ W).drew) hp) hr)) (fun hHeld23 => ?_)
                      clear hK K
                      refine wpAnyH_take (i := 24) (v := ?_) rfl (by kernel_rfl) (by kernel_rfl) (by kernel_rfl) (fun _ _ _ h => h) (Or.inl ⟨by rfl, ?_⟩) (by assumption) ?_
                      rotate_left
                      · (intro w' hSw; (try dsimp only at hSw); go_simp; (try (with_reducible rfl)))
                      simp only [Act.put, List.getElem_toArray, List.getElem_cons_succ, List.getElem_cons_zero, List.setIfInBounds_toArray, List.set_cons_succ, List.set_cons_zero]
                      refine wpAnyH_take (i := 25) (v := ?_) rfl (by kernel_rfl) (by kernel_rfl) (by kernel_rfl) (fun _ _ _ h => h) (Or.inl ⟨by rfl, ?_⟩) (by assumption) ?_
                      rotate_left
                      · (intro w' hSw; (try dsimp only at hSw); go_simp; (try (with_reducible rfl)))
                      simp only [Act.put, List.getElem_toArray, List.getElem_cons_succ, List.getElem_cons_zero, List.setIfInBounds_toArray, List.set_cons_succ, List.set_cons_zero]
                      refine wpAnyH_take (i := 26) (v := ?_) rfl (by kernel_rfl) (by kernel_rfl) (by kernel_rfl) (fun _ _ _ h => h) (Or.inl ⟨by rfl, ?_⟩) (by assumption) ?_
                      rotate_left
                      · (intro w' hSw; (try dsimp only at hSw); go_simp; (try (with_reducible rfl)))
                      simp only [Act.put, List.getElem_toArray, List.getElem_cons_succ, List.getElem_cons_zero, List.setIfInBounds_toArray, List.set_cons_succ, List.set_cons_zero]
                      refine wpAnyH_take (i := 27) (v := ?_) rfl (by kernel_rfl) (by kernel_rfl) (by kernel_rfl) (fun _ _ _ h => h) (Or.inl ⟨by rfl, ?_⟩) (by assumption) ?_
                      rotate_left
                      · (intro w' hSw; (try dsimp only at hSw); go_simp; (try (with_reducible rfl)))
                      simp only [Act.put, List.getElem_toArray, List.getElem_cons_succ, List.getElem_cons_zero, List.setIfInBounds_toArray, List.set_cons_succ, List.set_cons_zero]
                      refine wpAnyH_take (i := 28) (v := ?_) rfl (by kernel_rfl) (by kernel_rfl) (by kernel_rfl) (fun _ _ _ h => h) (Or.inl ⟨by rfl, ?_⟩) (by assumption) ?_
                      rotate_left
                      · (intro w' hSw; (try dsimp only at hSw); go_simp; (try (with_reducible rfl)))
                      simp only [Act.put, List.getElem_toArray, List.getElem_cons_succ, List.getElem_cons_zero, List.setIfInBounds_toArray, List.set_cons_succ, List.set_cons_zero]
                      refine wpAnyH_take (i := 29) (v := ?_) rfl (by kernel_rfl) (by kernel_rfl) (by kernel_rfl) (fun _ _ _ h => h) (Or.inl ⟨by rfl, ?_⟩) (by assumption) ?_
                      rotate_left
                      · (intro w' hSw; (try dsimp only at hSw); go_simp; (try (with_reducible rfl)))
                      simp only [Act.put, List.getElem_toArray, List.getElem_cons_succ, List.getElem_cons_zero, List.setIfInBounds_toArray, List.set_cons_succ, List.set_cons_zero]
                      refine wpAnyH_take (i := 30) (v := ?_) rfl (by kernel_rfl) (by kernel_rfl) (by kernel_rfl) (fun _ _ _ h => h) (Or.inl ⟨by rfl, ?_⟩) (by assumption) ?_
                      rotate_left
                      · (intro w' hSw; (try dsimp only at hSw); go_simp; (try (with_reducible rfl)))
                      simp only [Act.put, List.getElem_toArray, List.getElem_cons_succ, List.getElem_cons_zero, List.setIfInBounds_toArray, List.set_cons_succ, List.set_cons_zero]
                      refine wpAnyH_take (i := 31) (v := ?_) rfl (by kernel_rfl) (by kernel_rfl) (by kernel_rfl) (fun _ _ _ h => h) (Or.inl ⟨by rfl, ?_⟩) (by assumption) ?_
                      rotate_left
                      · (intro w' hSw; (try dsimp only at hSw); go_simp; (try (with_reducible rfl)))
                      simp only [Act.put, List.getElem_toArray, List.getElem_cons_succ, List.getElem_cons_zero, List.setIfInBounds_toArray, List.set_cons_succ, List.set_cons_zero]
                      refine wpAnyH_take (i := 32) (v := ?_) rfl (by kernel_rfl) (by kernel_rfl) (by kernel_rfl) (fun _ _ _ h => h) (Or.inl ⟨by rfl, ?_⟩) (by assumption) ?_
                      rotate_left
                      · (intro w' hSw; (try dsimp only at hSw); go_simp; (try (with_reducible rfl)))
                      simp only [Act.put, List.getElem_toArray, List.getElem_cons_succ, List.getElem_cons_zero, List.setIfInBounds_toArray, List.set_cons_succ, List.set_cons_zero]
                      refine wpAnyH_take (i := 33) (v := ?_) rfl (by kernel_rfl) (by kernel_rfl) (by kernel_rfl) (fun _ _ _ h => h) (Or.inl ⟨by rfl, ?_⟩) (by assumption) ?_
                      rotate_left
                      · (intro w' hSw; (try dsimp only at hSw); go_simp; (try (with_reducible rfl)))
                      simp only [Act.put, List.getElem_toArray, List.getElem_cons_succ, List.getElem_cons_zero, List.setIfInBounds_toArray, List.set_cons_succ, List.set_cons_zero]
                      refine wpAnyH_take (i := 34) (v := ?_) rfl (by kernel_rfl) (by kernel_rfl) (by kernel_rfl) (fun _ _ _ h => h) (Or.inl ⟨by rfl, ?_⟩) (by assumption) ?_
                      rotate_left
                      · (intro w' hSw; (try dsimp only at hSw); go_simp; (try (with_reducible rfl)))
                      simp only [Act.put, List.getElem_toArray, List.getElem_cons_succ, List.getElem_cons_zero, List.setIfInBounds_toArray, List.set_cons_succ, List.set_cons_zero]
                      refine wpAnyH_take (i := 35) (v := ?_) rfl (by kernel_rfl) (by kernel_rfl) (by kernel_rfl) (fun _ _ _ h => h) (Or.inl ⟨by rfl, ?_⟩) (by assumption) ?_
                      rotate_left
                      · (intro w' hSw; (try dsimp only at hSw); go_simp; (try (with_reducible rfl)))
                      simp only [Act.put, List.getElem_toArray, List.getElem_cons_succ, List.getElem_cons_zero, List.setIfInBounds_toArray, List.set_cons_succ, List.set_cons_zero]
                      refine wpAnyH_take (i := 36) (v := ?_) rfl (by kernel_rfl) (by kernel_rfl) (by kernel_rfl) (fun _ _ _ h => h) (Or.inl ⟨by rfl, ?_⟩) (by assumption) ?_
                      rotate_left
                      · (intro w' hSw; (try dsimp only at hSw); go_simp; (try (with_reducible rfl)))
                      simp only [Act.put, List.getElem_toArray, List.getElem_cons_succ, List.getElem_cons_zero, List.setIfInBounds_toArray, List.set_cons_succ, List.set_cons_zero]
                      refine wpAnyH_take (i := 37) (v := ?_) rfl (by kernel_rfl) (by kernel_rfl) (by kernel_rfl) (fun _ _ _ h => h) (Or.inl ⟨by rfl, ?_⟩) (by assumption) ?_
                      rotate_left
                      · (intro w' hSw; (try dsimp only at hSw); go_simp; (try (with_reducible rfl)))
                      simp only [Act.put, List.getElem_toArray, List.getElem_cons_succ, List.getElem_cons_zero, List.setIfInBounds_toArray, List.set_cons_succ, List.set_cons_zero]
                      refine wpAnyH_take (i := 38) (v := ?_) rfl (by kernel_rfl) (by kernel_rfl) (by kernel_rfl) (fun _ _ _ h => h) (Or.inl ⟨by rfl, ?_⟩) (by assumption) ?_
                      rotate_left
                      · (intro w' hSw; (try dsimp only at hSw); go_simp; (try (with_reducible rfl)))
                      simp only [Act.put, List.getElem_toArray, List.getElem_cons_succ, List.getElem_cons_zero, List.setIfInBounds_toArray, List.set_cons_succ, List.set_cons_zero]
                      refine wpAnyH_done (by kernel_rfl) ?_ _
                      go_wp2
                      go_ret
                      exact ⟨rfl, HBW.out.trans ((keep_below (keep_below ((Below.refl _ W).drew) hp) hr).mono HBW.out.size)⟩
                    exact AllReadyH.nil
                  exact AllReadyH.nil
                refine AllReadyH.cons rfl (fun K hK => ?_) ?_
                · go_simp
                  refine (RP.out _ (keep_below ((Below.refl _ W).drew) hp)).mono ?_
                  rintro e hrw ⟨A7, A7c, rfl, A7k, A7m, A7z, A7R, hr⟩
                  have hrq := fun w' (h : Below hrw.heap.size hrw w') => conv_rd w' hrw.heap.size A7c A7 q (A7R.below h)
                  have hr0 := hrq _ (Below.refl _ _)
                  have hr1 := hpq _ hr
                  refine hK.out _ _ (MK.out _ (keep_below (keep_below ((Below.refl _ W).drew) hp) hr)) (fun hHeld22 => ?_)
                  clear hK K
                  refine wpAnyH_ready (rs := [20, 23]) (by kernel_rfl) (by simp) ?_
                  refine AllReadyH.cons rfl (fun K hK => ?_) ?_
                  · go_simp
                    refine hK.out _ _ (MK.out _ (keep_below (keep_below ((Below.refl _ W).drew) hp) hr)) (fun hHeld20 => ?_)
                    clear hK K
                    refine wpAnyH_ready (rs := [23]) (by kernel_rfl) (by simp) ?_
                    refine AllReadyH.cons rfl (fun K hK => ?_) ?_
                    · go_simp
                      refine hK.out _ _ (MK.out _ (keep_below (keep_below ((Below.refl _ W).drew) hp) hr)) (fun hHeld23 => ?_)
                      clear hK K
                      refine wpAnyH_take (i := 24) (v := ?_) rfl (by kernel_rfl) (by kernel_rfl) (by kernel_rfl) (fun _ _ _ h => h) (Or.inl ⟨by rfl, ?_⟩) (by assumption) ?_
                      rotate_left
                      · (intro w' hSw; (try dsimp only at hSw); go_simp; (try (with_reducible rfl)))
                      simp only [Act.put, List.getElem_toArray, List.getElem_cons_succ, List.getElem_cons_zero, List.setIfInBounds_toArray, List.set_cons_succ, List.set_cons_zero]
                      refine wpAnyH_take (i := 25) (v := ?_) rfl (by kernel_rfl) (by kernel_rfl) (by kernel_rfl) (fun _ _ _ h => h) (Or.inl ⟨by rfl, ?_⟩) (by assumption) ?_
                      rotate_left
                      · (intro w' hSw; (try dsimp only at hSw); go_simp; (try (with_reducible rfl)))
                      simp only [Act.put, List.getElem_toArray, List.getElem_cons_succ, List.getElem_cons_zero, List.setIfInBounds_toArray, List.set_cons_succ, List.set_cons_zero]
                      refine wpAnyH_take (i := 26) (v := ?_) rfl (by kernel_rfl) (by kernel_rfl) (by kernel_rfl) (fun _ _ _ h => h) (Or.inl ⟨by rfl, ?_⟩) (by assumption) ?_
                      rotate_left
                      · (intro w' hSw; (try dsimp only at hSw); go_simp; (try (with_reducible rfl)))
                      simp only [Act.put, List.getElem_toArray, List.getElem_cons_succ, List.getElem_cons_zero, List.setIfInBounds_toArray, List.set_cons_succ, List.set_cons_zero]
                      refine wpAnyH_take (i := 27) (v := ?_) rfl (by kernel_rfl) (by kernel_rfl) (by kernel_rfl) (fun _ _ _ h => h) (Or.inl ⟨by rfl, ?_⟩) (by assumption) ?_
                      rotate_left
                      · (intro w' hSw; (try dsimp only at hSw); go_simp; (try (with_reducible rfl)))
                      simp only [Act.put, List.getElem_toArray, List.getElem_cons_succ, List.getElem_cons_zero, List.setIfInBounds_toArray, List.set_cons_succ, List.set_cons_zero]
                      refine wpAnyH_take (i := 28) (v := ?_) rfl (by kernel_rfl) (by kernel_rfl) (by kernel_rfl) (fun _ _ _ h => h) (Or.inl ⟨by rfl, ?_⟩) (by assumption) ?_
                      rotate_left
                      · (intro w' hSw; (try dsimp only at hSw); go_simp; (try (with_reducible rfl)))
                      simp only [Act.put, List.getElem_toArray, List.getElem_cons_succ, List.getElem_cons_zero, List.setIfInBounds_toArray, List.set_cons_succ, List.set_cons_zero]
                      refine wpAnyH_take (i := 29) (v := ?_) rfl (by kernel_rfl) (by kernel_rfl) (by kernel_rfl) (fun _ _ _ h => h) (Or.inl ⟨by rfl, ?_⟩) (by assumption) ?_
                      rotate_left
                      · (intro w' hSw; (try dsimp only at hSw); go_simp; (try (with_reducible rfl)))
                      simp only [Act.put, List.getElem_toArray, List.getElem_cons_succ, List.getElem_cons_zero, List.setIfInBounds_toArray, List.set_cons_succ, List.set_cons_zero]
                      refine wpAnyH_take (i := 30) (v := ?_) rfl (by kernel_rfl) (by kernel_rfl) (by kernel_rfl) (fun _ _ _ h => h) (Or.inl ⟨by rfl, ?_⟩) (by assumption) ?_
                      rotate_left
                      · (intro w' hSw; (try dsimp only at hSw); go_simp; (try (with_reducible rfl)))
                      simp only [Act.put, List.getElem_toArray, List.getElem_cons_succ, List.getElem_cons_zero, List.setIfInBounds_toArray, List.set_cons_succ, List.set_cons_zero]
                      refine wpAnyH_take (i := 31) (v := ?_) rfl (by kernel_rfl) (by kernel_rfl) (by kernel_rfl) (fun _ _ _ h => h) (Or.inl ⟨by rfl, ?_⟩) (by assumption) ?_
                      rotate_left
                      · (intro w' hSw; (try dsimp only at hSw); go_simp; (try (with_reducible rfl)))
                      simp only [Act.put, List.getElem_toArray, List.getElem_cons_succ, List.getElem_cons_zero, List.setIfInBounds_toArray, List.set_cons_succ, List.set_cons_zero]
                      refine wpAnyH_take (i := 32) (v := ?_) rfl (by kernel_rfl) (by kernel_rfl) (by kernel_rfl) (fun _ _ _ h => h) (Or.inl ⟨by rfl, ?_⟩) (by assumption) ?_
                      rotate_left
                      · (intro w' hSw; (try dsimp only at hSw); go_simp; (try (with_reducible rfl)))
                      simp only [Act.put, List.getElem_toArray, List.getElem_cons_succ, List.getElem_cons_zero, List.setIfInBounds_toArray, List.set_cons_succ, List.set_cons_zero]
                      refine wpAnyH_take (i := 33) (v := ?_) rfl (by kernel_rfl) (by kernel_rfl) (by kernel_rfl) (fun _ _ _ h => h) (Or.inl ⟨by rfl, ?_⟩) (by assumption) ?_
                      rotate_left
                      · (intro w' hSw; (try dsimp only at hSw); go_simp; (try (with_reducible rfl)))
                      simp only [Act.put, List.getElem_toArray, List.getElem_cons_succ, List.getElem_cons_zero, List.setIfInBounds_toArray, List.set_cons_succ, List.set_cons_zero]
                      refine wpAnyH_take (i := 34) (v := ?_) rfl (by kernel_rfl) (by kernel_rfl) (by kernel_rfl) (fun _ _ _ h => h) (Or.inl ⟨by rfl, ?_⟩) (by assumption) ?_
                      rotate_left
                      · (intro w' hSw; (try dsimp only at hSw); go_simp; (try (with_reducible rfl)))
                      simp only [Act.put, List.getElem_toArray, List.getElem_cons_succ, List.getElem_cons_zero, List.setIfInBounds_toArray, List.set_cons_succ, List.set_cons_zero]
                      refine wpAnyH_take (i := 35) (v := ?_) rfl (by kernel_rfl) (by kernel_rfl) (by kernel_rfl) (fun _ _ _ h => h) (Or.inl ⟨by rfl, ?_⟩) (by assumption) ?_
                      rotate_left
                      · (intro w' hSw; (try dsimp only at hSw); go_simp; (try (with_reducible rfl)))
                      simp only [Act.put, List.getElem_toArray, List.getElem_cons_succ, List.getElem_cons_zero, List.setIfInBounds_toArray, List.set_cons_succ, List.set_cons_zero]
                      refine wpAnyH_take (i := 36) (v := ?_) rfl (by kernel_rfl) (by kernel_rfl) (by kernel_rfl) (fun _ _ _ h => h) (Or.inl ⟨by rfl, ?_⟩) (by assumption) ?_
                      rotate_left
                      · (intro w' hSw; (try dsimp only at hSw); go_simp; (try (with_reducible rfl)))
                      simp only [Act.put, List.getElem_toArray, List.getElem_cons_succ, List.getElem_cons_zero, List.setIfInBounds_toArray, List.set_cons_succ, List.set_cons_zero]
                      refine wpAnyH_take (i := 37) (v := ?_) rfl (by kernel_rfl) (by kernel_rfl) (by kernel_rfl) (fun _ _ _ h => h) (Or.inl ⟨by rfl, ?_⟩) (by assumption) ?_
                      rotate_left
                      · (intro w' hSw; (try dsimp only at hSw); go_simp; (try (with_reducible rfl)))
                      simp only [Act.put, List.getElem_toArray, List.getElem_cons_succ, List.getElem_cons_zero, List.setIfInBounds_toArray, List.set_cons_succ, List.set_cons_zero]
                      refine wpAnyH_take (i := 38) (v := ?_) rfl (by kernel_rfl) (by kernel_rfl) (by kernel_rfl) (fun _ _ _ h => h) (Or.inl ⟨by rfl, ?_⟩) (by assumption) ?_
                      rotate_left
                      · (intro w' hSw; (try dsimp only at hSw); go_simp; (try (with_reducible rfl)))
                      simp only [Act.put, List.getElem_toArray, List.getElem_cons_succ, List.getElem_cons_zero, List.setIfInBounds_toArray, List.set_cons_succ, List.set_cons_zero]
                      refine wpAnyH_done (by kernel_rfl) ?_ _
                      go_wp2
                      go_ret
                      exact ⟨rfl, HBW.out.trans ((keep_below (keep_below ((Below.refl _ W).drew) hp) hr).mono HBW.out.size)⟩
                    exact AllReadyH.nil
                  refine AllReadyH.cons rfl (fun K hK => ?_) ?_
                  · go_simp
                    refine hK.out _ _ (MK.out _ (keep_below (keep_below ((Below.refl _ W).drew) hp) hr)) (fun hHeld23 => ?_)
                    clear hK K
                    refine wpAnyH_ready (rs := [20]) (by kernel_rfl) (by simp) ?_
                    refine AllReadyH.cons rfl (fun K hK => ?_) ?_
                    · go_simp
                      refine hK.out _ _ (MK.out _ (keep_below (keep_below ((Below.refl _ W).drew) hp) hr)) (fun hHeld20 => ?_)
                      clear hK K
                      refine wpAnyH_take (i := 24) (v := ?_) rfl (by kernel_rfl) (by kernel_rfl) (by kernel_rfl) (fun _ _ _ h => h) (Or.inl ⟨by rfl, ?_⟩) (by assumption) ?_
                      rotate_left
                      · (intro w' hSw; (try dsimp only at hSw); go_simp; (try (with_reducible rfl)))
                      simp only [Act.put, List.getElem_toArray, List.getElem_cons_succ, List.getElem_cons_zero, List.setIfInBounds_toArray, List.set_cons_succ, List.set_cons_zero]
                      refine wpAnyH_take (i := 25) (v := ?_) rfl (by kernel_rfl) (by kernel_rfl) (by kernel_rfl) (fun _ _ _ h => h) (Or.inl ⟨by rfl, ?_⟩) (by assumption) ?_
                      rotate_left
                      · (intro w' hSw; (try dsimp only at hSw); go_simp; (try (with_reducible rfl)))
                      simp only [Act.put, List.getElem_toArray, List.getElem_cons_succ, List.getElem_cons_zero, List.setIfInBounds_toArray, List.set_cons_succ, List.set_cons_zero]
                      refine wpAnyH_take (i := 26) (v := ?_) rfl (by kernel_rfl) (by kernel_rfl) (by kernel_rfl) (fun _ _ _ h => h) (Or.inl ⟨by rfl, ?_⟩) (by assumption) ?_
                      rotate_left
                      · (intro w' hSw; (try dsimp only at hSw); go_simp; (try (with_reducible rfl)))
                      simp only [Act.put, List.getElem_toArray, List.getElem_cons_succ, List.getElem_cons_zero, List.setIfInBounds_toArray, List.set_cons_succ, List.set_cons_zero]
                      refine wpAnyH_take (i := 27) (v := ?_) rfl (by kernel_rfl) (by kernel_rfl) (by kernel_rfl) (fun _ _ _ h => h) (Or.inl ⟨by rfl, ?_⟩) (by assumption) ?_
                      rotate_left
                      · (intro w' hSw; (try dsimp only at hSw); go_simp; (try (with_reducible rfl)))
                      simp only [Act.put, List.getElem_toArray, List.getElem_cons_succ, List.getElem_cons_zero, List.setIfInBounds_toArray, List.set_cons_succ, List.set_cons_zero]
                      refine wpAnyH_take (i := 28) (v := ?_) rfl (by kernel_rfl) (by kernel_rfl) (by kernel_rfl) (fun _ _ _ h => h) (Or.inl ⟨by rfl, ?_⟩) (by assumption) ?_
                      rotate_left
                      · (intro w' hSw; (try dsimp only at hSw); go_simp; (try (with_reducible rfl)))
                      simp only [Act.put, List.getElem_toArray, List.getElem_cons_succ, List.getElem_cons_zero, List.setIfInBounds_toArray, List.set_cons_succ, List.set_cons_zero]
                      refine wpAnyH_take (i := 29) (v := ?_) rfl (by kernel_rfl) (by kernel_rfl) (by kernel_rfl) (fun _ _ _ h => h) (Or.inl ⟨by rfl, ?_⟩) (by assumption) ?_
                      rotate_left
                      · (intro w' hSw; (try dsimp only at hSw); go_simp; (try (with_reducible rfl)))
                      simp only [Act.put, List.getElem_toArray, List.getElem_cons_succ, List.getElem_cons_zero, List.setIfInBounds_toArray, List.set_cons_succ, List.set_cons_zero]
                      refine wpAnyH_take (i := 30) (v := ?_) rfl (by kernel_rfl) (by kernel_rfl) (by kernel_rfl) (fun _ _ _ h => h) (Or.inl ⟨by rfl, ?_⟩) (by assumption) ?_
                      rotate_left
                      · (intro w' hSw; (try dsimp only at hSw); go_simp; (try (with_reducible rfl)))
                      simp only [Act.put, List.getElem_toArray, List.getElem_cons_succ, List.getElem_cons_zero, List.setIfInBounds_toArray, List.set_cons_succ, List.set_cons_zero]
                      refine wpAnyH_take (i := 31) (v := ?_) rfl (by kernel_rfl) (by kernel_rfl) (by kernel_rfl) (fun _ _ _ h => h) (Or.inl ⟨by rfl, ?_⟩) (by assumption) ?_
                      rotate_left
                      · (intro w' hSw; (try dsimp only at hSw); go_simp; (try (with_reducible rfl)))
                      simp only [Act.put, List.getElem_toArray, List.getElem_cons_succ, List.getElem_cons_zero, List.setIfInBounds_toArray, List.set_cons_succ, List.set_cons_zero]
                      refine wpAnyH_take (i := 32) (v := ?_) rfl (by kernel_rfl) (by kernel_rfl) (by kernel_rfl) (fun _ _ _ h => h) (Or.inl ⟨by rfl, ?_⟩) (by assumption) ?_
                      rotate_left
                      · (intro w' hSw; (try dsimp only at hSw); go_simp; (try (with_reducible rfl)))
                      simp only [Act.put, List.getElem_toArray, List.getElem_cons_succ, List.getElem_cons_zero, List.setIfInBounds_toArray, List.set_cons_succ, List.set_cons_zero]
                      refine wpAnyH_take (i := 33) (v := ?_) rfl (by kernel_rfl) (by kernel_rfl) (by kernel_rfl) (fun _ _ _ h => h) (Or.inl ⟨by rfl, ?_⟩) (by assumption) ?_
                      rotate_left
                      · (intro w' hSw; (try dsimp only at hSw); go_simp; (try (with_reducible rfl)))
                      simp only [Act.put, List.getElem_toArray, List.getElem_cons_succ, List.getElem_cons_zero, List.setIfInBounds_toArray, List.set_cons_succ, List.set_cons_zero]
                      refine wpAnyH_take (i := 34) (v := ?_) rfl (by kernel_rfl) (by kernel_rfl) (by kernel_rfl) (fun _ _ _ h => h) (Or.inl ⟨by rfl, ?_⟩) (by assumption) ?_
                      rotate_left
                      · (intro w' hSw; (try dsimp only at hSw); go_simp; (try (with_reducible rfl)))
                      simp only [Act.put, List.getElem_toArray, List.getElem_cons_succ, List.getElem_cons_zero, List.setIfInBounds_toArray, List.set_cons_succ, List.set_cons_zero]
                      refine wpAnyH_take (i := 35) (v := ?_) rfl (by kernel_rfl) (by kernel_rfl) (by kernel_rfl) (fun _ _ _ h => h) (Or.inl ⟨by rfl, ?_⟩) (by assumption) ?_
                      rotate_left
                      · (intro w' hSw; (try dsimp only at hSw); go_simp; (try (with_reducible rfl)))
                      simp only [Act.put, List.getElem_toArray, List.getElem_cons_succ, List.getElem_cons_zero, List.setIfInBounds_toArray, List.set_cons_succ, List.set_cons_zero]
                      refine wpAnyH_take (i := 36) (v := ?_) rfl (by kernel_rfl) (by kernel_rfl) (by kernel_rfl) (fun _ _ _ h => h) (Or.inl ⟨by rfl, ?_⟩) (by assumption) ?_
                      rotate_left
                      · (intro w' hSw; (try dsimp only at hSw); go_simp; (try (with_reducible rfl)))
                      simp only [Act.put, List.getElem_toArray, List.getElem_cons_succ, List.getElem_cons_zero, List.setIfInBounds_toArray, List.set_cons_succ, List.set_cons_zero]
                      refine wpAnyH_take (i := 37) (v := ?_) rfl (by kernel_rfl) (by kernel_rfl) (by kernel_rfl) (fun _ _ _ h => h) (Or.inl ⟨by rfl, ?_⟩) (by assumption) ?_
                      rotate_left
                      · (intro w' hSw; (try dsimp only at hSw); go_simp; (try (with_reducible rfl)))
                      simp only [Act.put, List.getElem_toArray, List.getElem_cons_succ, List.getElem_cons_zero, List.setIfInBounds_toArray, List.set_cons_succ, List.set_cons_zero]
                      refine wpAnyH_take (i := 38) (v := ?_) rfl (by kernel_rfl) (by kernel_rfl) (by kernel_rfl) (fun _ _ _ h => h) (Or.inl ⟨by rfl, ?_⟩) (by assumption) ?_
                      rotate_left
                      · (intro w' hSw; (try dsimp only at hSw); go_simp; (try (with_reducible rfl)))
                      simp only [Act.put, List.getElem_toArray, List.getElem_cons_succ, List.getElem_cons_zero, List.setIfInBounds_toArray, List.set_cons_succ, List.set_cons_zero]
                      refine wpAnyH_done (by kernel_rfl) ?_ _
                      go_wp2
                      go_ret
                      exact ⟨rfl, HBW.out.trans ((keep_below (keep_below ((Below.refl _ W).drew) hp) hr).mono HBW.out.size)⟩
                    exact AllReadyH.nil
                  exact AllReadyH.nil
                exact AllReadyH.nil
              exact AllReadyH.nil
            exact AllReadyH.nil
          exact AllReadyH.nil
        exact AllReadyH.nil
      exact AllReadyH.nil
    · exact absurd (show y = le4 (goN 0 u) by have := HC.out.2; unfold Good at this; rw [HLN.out, hm, Nat.add_sub_cancel, ← hu, ← hy] at this; exact this) hch
end Go.Proofs.YtpighdioomjnmabDoor
