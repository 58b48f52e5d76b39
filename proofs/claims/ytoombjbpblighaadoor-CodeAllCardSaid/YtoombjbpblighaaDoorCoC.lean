/-
  Layer 8: the contract of Line. Written by an AI agent.
-/
import Derived.Test.YtoombjbpblighaaDoorCoA
import Derived.Test.YtoombjbpblighaaDoorCoB
import Derived.Lib.ItoaLen
namespace Go.Proofs.YtoombjbpblighaaDoor
open Go Go.RowKit Go.Shelf
set_option linter.unusedVariables false
set_option linter.unusedSimpArgs false

def lineN (op a b : Int) (s : List UInt8) : List UInt8 := nameN op ++ (if hasN op = 1 ∨ hasN op = 3 then 32 :: Lib.itoa a else []) ++ (if hasN op = 3 then 32 :: Lib.itoa b else []) ++ (if hasN op = 4 then 32 :: s else [])
theorem name_le (op : Int) : (nameN op).length ≤ 6 := by
  have h : ∀ k, k < 23 → (namesL.getD k []).length ≤ 6 := by decide
  unfold nameN
  split
  · exact h _ (by omega)
  · exact Nat.zero_le _

set_option maxRecDepth 100000 in
set_option maxHeartbeats 8000000 in
theorem cline_any (op a b : Int) (s : ByteArray) (h0 : -9223372036854775808 ≤ op) (h1 : op ≤ 9223372036854775807) (ha0 : -9223372036854775808 ≤ a) (ha1 : a ≤ 9223372036854775807) (hb0 : -9223372036854775808 ≤ b) (hb1 : b ≤ 9223372036854775807) (hs : s.size ≤ 100000) (w : World) (hw : CodeW w) :
    Calls Tryd.prog 35 #[.agg #[.int .i64 op, .int .i64 a, .int .i64 b, .string s]] w fun e w' => e = .returned (.string (ofL (lineN op a b s.data.toList))) ∧ Keeps (fun _ => False) w w' := by
  have HW := Lib.hid hw
  clear hw
  have hfour := has_four op
  have hln : lineN op a b s.data.toList = nameN op ++ (if hasN op = 1 ∨ hasN op = 3 then 32 :: Lib.itoa a else []) ++ (if hasN op = 3 then 32 :: Lib.itoa b else []) ++ (if hasN op = 4 then 32 :: s.data.toList else []) := rfl
  have la := Lib.itoa_length_le a ha0 ha1
  have lb := Lib.itoa_length_le b hb0 hb1
  have ln := name_le op
  have HC0 : Hid (∀ w, Calls Tryd.prog 59 #[.int .i64 op] w fun e w' => e = .returned (.int .i64 (hasN op)) ∧ Keeps (fun _ => False) w w') := fun w => has_any op h0 h1 w
  have NC0 : Hid (∀ w, CodeW w → Calls Tryd.prog 37 #[.int .i64 op] w fun e w' => e = .returned (.string (ofL (nameN op))) ∧ Keeps (fun _ => False) w w') := fun w h => name_op op w h
  have IA0 : Hid (∀ w, CodeW w → Calls Tryd.prog 62 #[.int .i64 a] w fun e w' => e = .returned (.string (ofL (Lib.itoa a))) ∧ Keeps (fun _ => False) w w') := fun w h => itoa_any a ha0 ha1 w h
  have IB0 : Hid (∀ w, CodeW w → Calls Tryd.prog 62 #[.int .i64 b] w fun e w' => e = .returned (.string (ofL (Lib.itoa b))) ∧ Keeps (fun _ => False) w w') := fun w h => itoa_any b hb0 hb1 w h
  obtain ⟨o, ho⟩ : ∃ o, o = hasN op := ⟨_, rfl⟩
  obtain ⟨N, hN⟩ : ∃ N : ByteArray, N = ofL (nameN op) := ⟨_, rfl⟩
  obtain ⟨A, hA⟩ : ∃ A : ByteArray, A = ofL (Lib.itoa a) := ⟨_, rfl⟩
  obtain ⟨B, hB⟩ : ∃ B : ByteArray, B = ofL (Lib.itoa b) := ⟨_, rfl⟩
  obtain ⟨L, hL⟩ : ∃ L, L = lineN op a b s.data.toList := ⟨_, rfl⟩
  have hNs : N.size ≤ 6 := by rw [hN, ofL_size]; exact ln
  have hAs : A.size ≤ 21 := by rw [hA, ofL_size]; exact la
  have hBs : B.size ≤ 21 := by rw [hB, ofL_size]; exact lb
  have hNl : N.data.toList = nameN op := by rw [hN, ofL_list]
  have hAl : A.data.toList = Lib.itoa a := by rw [hA, ofL_list]
  have hBl : B.data.toList = Lib.itoa b := by rw [hB, ofL_list]
  rw [← hL, ← hNl, ← hAl, ← hBl, ← ho] at hln
  rw [← ho] at HC0 hfour
  rw [← hN] at NC0
  rw [← hA] at IA0
  rw [← hB] at IB0
  rw [← hL]
  have HLN := Lib.hid hln
  clear hln la lb ln ho hN hA hB hL hNl hAl hBl
  go_enter Tryd.func35, Tryd.ntmps35
  go_wp2_with fail
  generalize hwA : w.alloc _ = wA
  have kA : Keeps (fun _ => False) w wA := by rw [← hwA]; exact (Keeps.refl _ _).alloc _
  have c0 : wA.cell? ⟨w.heap.size, 0, none⟩ = some (.int .i64 op) := by rw [← hwA]; simp
  have c1 : wA.cell? ⟨w.heap.size, 1, none⟩ = some (.int .i64 a) := by rw [← hwA]; simp
  have c2 : wA.cell? ⟨w.heap.size, 2, none⟩ = some (.int .i64 b) := by rw [← hwA]; simp
  have c3 : wA.cell? ⟨w.heap.size, 3, none⟩ = some (.string s) := by rw [← hwA]; simp
  obtain ⟨pn, hpn⟩ : ∃ pn, pn = w.heap.size := ⟨_, rfl⟩
  rw [← hpn] at c0 c1 c2 c3 ⊢
  have hbl := cell_ltk c0
  have KA := Lib.hid kA
  have HWA : Hid (∀ w', Keeps (fun _ => False) wA w' → CodeW w') := fun w' h => HW.out.keep (KA.out.trans h (fun _ _ h => h))
  have NC : Hid (∀ w', Keeps (fun _ => False) wA w' → Calls Tryd.prog 37 #[.int .i64 op] w' fun e w'' => e = .returned (.string N) ∧ Keeps (fun _ => False) w' w'') := fun w' h => NC0.out w' (HWA.out w' h)
  have HC : Hid (∀ w', Keeps (fun _ => False) wA w' → Calls Tryd.prog 59 #[.int .i64 op] w' fun e w'' => e = .returned (.int .i64 o) ∧ Keeps (fun _ => False) w' w'') := fun w' h => HC0.out w'
  have IA : Hid (∀ w', Keeps (fun _ => False) wA w' → Calls Tryd.prog 62 #[.int .i64 a] w' fun e w'' => e = .returned (.string A) ∧ Keeps (fun _ => False) w' w'') := fun w' h => IA0.out w' (HWA.out w' h)
  have IB : Hid (∀ w', Keeps (fun _ => False) wA w' → Calls Tryd.prog 62 #[.int .i64 b] w' fun e w'' => e = .returned (.string B) ∧ Keeps (fun _ => False) w' w'') := fun w' h => IB0.out w' (HWA.out w' h)
  have C1 := Lib.hid c1
  have C2 := Lib.hid c2
  have C3 := Lib.hid c3
  clear kA hwA hpn c1 c2 c3 NC0 HC0 IA0 IB0
  refine wp_region_held_drew (S := fun w' => w'.cell? ⟨pn, 0, none⟩ = some (.int .i64 op) ∧ Keeps (fun _ => False) wA w') (by kernel_rfl) (⟨c0, (Keeps.refl _ _).drew⟩) (fun hHeld => ?_)
  clear c0
  refine wpAnyH_take (i := 0) (v := ?_) rfl (by kernel_rfl) (by kernel_rfl) (by kernel_rfl) (fun _ _ _ h => h) (Or.inl ⟨by rfl, ?_⟩) (by assumption) ?_
  rotate_left
  · (intro w' hSw; (try dsimp only at hSw); obtain ⟨c0, ck⟩ := hSw; go_simp; (try (with_reducible rfl)))
  simp only [Act.put, List.getElem_toArray, List.getElem_cons_zero, List.setIfInBounds_toArray, List.set_cons_succ, List.set_cons_zero]
  refine wpAnyH_take (i := 3) (v := ?_) rfl (by kernel_rfl) (by kernel_rfl) (by kernel_rfl) (fun _ _ _ h => h) (Or.inl ⟨by rfl, ?_⟩) (by assumption) ?_
  rotate_left
  · (intro w' hSw; (try dsimp only at hSw); obtain ⟨c0, ck⟩ := hSw; go_simp; (try (with_reducible rfl)))
  simp only [Act.put, List.getElem_toArray, List.getElem_cons_succ, List.getElem_cons_zero, List.setIfInBounds_toArray, List.set_cons_succ, List.set_cons_zero]
  refine wpAnyH_take (i := 1) (v := ?_) rfl (by kernel_rfl) (by kernel_rfl) (by kernel_rfl) (fun _ _ _ h => h) (Or.inl ⟨by rfl, ?_⟩) (by assumption) ?_
  rotate_left
  · (intro w' hSw; (try dsimp only at hSw); obtain ⟨c0, ck⟩ := hSw; go_simp; (try (with_reducible rfl)))
  simp only [Act.put, List.getElem_toArray, List.getElem_cons_succ, List.getElem_cons_zero, List.setIfInBounds_toArray, List.set_cons_succ, List.set_cons_zero]
  refine wpAnyH_take (i := 4) (v := ?_) rfl (by kernel_rfl) (by kernel_rfl) (by kernel_rfl) (fun _ _ _ h => h) (Or.inl ⟨by rfl, ?_⟩) (by assumption) ?_
  rotate_left
  · (intro w' hSw; (try dsimp only at hSw); obtain ⟨c0, ck⟩ := hSw; go_simp; (try (with_reducible rfl)))
  simp only [Act.put, List.getElem_toArray, List.getElem_cons_succ, List.getElem_cons_zero, List.setIfInBounds_toArray, List.set_cons_succ, List.set_cons_zero]
  refine wpAnyH_ready (rs := [2]) (by kernel_rfl) (by simp) ?_
  refine AllReadyH.cons rfl (fun K hK => ?_) AllReadyH.nil
  go_simp
  (go_at_call 37; refine (NC.out _ hHeld.2).mono ?_; rintro e w6 ⟨rfl, hb4⟩; (try go_simp))
  refine hK.out _ _ ?_ (fun hHeld => ?_)
  · (try dsimp only)
    exact ⟨(hb4.cell (cell_ltk hHeld.1) (fun h => h)).trans hHeld.1, hHeld.2.trans hb4 (fun _ _ h => h)⟩
  clear hK K
  refine wpAnyH_ready (rs := [5]) (by kernel_rfl) (by simp) ?_
  refine AllReadyH.cons rfl (fun K hK => ?_) AllReadyH.nil
  go_simp
  (go_at_call 59; refine (HC.out _ hHeld.2).mono ?_; rintro e w7 ⟨rfl, hb4⟩; (try go_simp))
  refine hK.out _ _ ?_ (fun hHeld => ?_)
  · (try dsimp only)
    exact ⟨(hb4.cell (cell_ltk hHeld.1) (fun h => h)).trans hHeld.1, hHeld.2.trans hb4 (fun _ _ h => h)⟩
  clear hK K
  refine wpAnyH_take (i := 6) (v := ?_) rfl (by kernel_rfl) (by kernel_rfl) (by kernel_rfl) (fun _ _ _ h => h) (Or.inl ⟨by rfl, ?_⟩) (by assumption) ?_
  rotate_left
  · (intro w' hSw; (try dsimp only at hSw); obtain ⟨c0, ck⟩ := hSw; go_simp; (try (with_reducible rfl)))
  simp only [Act.put, List.getElem_toArray, List.getElem_cons_succ, List.getElem_cons_zero, List.setIfInBounds_toArray, List.set_cons_succ, List.set_cons_zero]
  refine wpAnyH_take (i := 7) (v := ?_) rfl (by kernel_rfl) (by kernel_rfl) (by kernel_rfl) (fun _ _ _ h => h) (Or.inl ⟨by rfl, ?_⟩) (by assumption) ?_
  rotate_left
  · (intro w' hSw; (try dsimp only at hSw); obtain ⟨c0, ck⟩ := hSw; go_simp; (try (with_reducible rfl)))
  simp only [Act.put, List.getElem_toArray, List.getElem_cons_succ, List.getElem_cons_zero, List.setIfInBounds_toArray, List.set_cons_succ, List.set_cons_zero]
  refine wpAnyH_done (by kernel_rfl) ?_ _
  have hk7 := hHeld.2
  have d1 := (hk7.cell hbl (fun h => h)).trans C1.out
  have d2 := (hk7.cell hbl (fun h => h)).trans C2.out
  have d3 := (hk7.cell hbl (fun h => h)).trans C3.out
  have K7 := Lib.hid (KA.out.trans hk7 (fun _ _ h => h))
  have IA7 := Lib.hid (IA.out _ hk7)
  have IBA : Hid (∀ w', Keeps (fun _ => False) w7 w' → Calls Tryd.prog 62 #[.int .i64 b] w' fun e w'' => e = .returned (.string B) ∧ Keeps (fun _ => False) w' w'') := fun w' h => IB.out w' (hk7.trans h (fun _ _ h => h))
  clear hk7 hHeld NC HC IA IB
  have hb7 := cell_ltk d1
  rcases hfour with rfl | rfl | rfl | rfl
  · have HX : Hid (ofL L = N) := Lib.hid (bytes_ext (by rw [ofL_list, HLN.out]; simp))
    clear IA7 IBA
    go_wp2
    go_ret
    exact ⟨by rw [HX.out]; rfl, K7.out⟩
  · have HX : Hid (ofL L = N ++ ({ data := #[32] } ++ A)) := Lib.hid (bytes_ext (by rw [ofL_list, HLN.out, app_list, app_list]; simp))
    clear IBA
    go_wp2_with fail
    refine IA7.out.mono ?_
    rintro e w8 ⟨rfl, k8⟩
    have K8 := Lib.hid (K7.out.trans k8 (fun _ _ h => h))
    clear k8 IA7
    go_wp2
    go_ret
    exact ⟨by rw [HX.out]; rfl, K8.out⟩
  · have HX : Hid (ofL L = N ++ ({ data := #[32] } ++ A) ++ ({ data := #[32] } ++ B)) := Lib.hid (bytes_ext (by rw [ofL_list, HLN.out, app_list, app_list, app_list, app_list]; simp))
    go_wp2_with fail
    refine IA7.out.mono ?_
    rintro e w8 ⟨rfl, k8⟩
    have K8 := Lib.hid (K7.out.trans k8 (fun _ _ h => h))
    have IB8 := Lib.hid (IBA.out w8 k8)
    have e2 := (k8.cell hb7 (fun h => h)).trans d2
    clear k8 IA7 IBA
    go_wp2_with fail
    refine IB8.out.mono ?_
    rintro e w9 ⟨rfl, k9⟩
    have K9 := Lib.hid (K8.out.trans k9 (fun _ _ h => h))
    clear k9 IB8
    go_wp2
    go_ret
    exact ⟨by rw [HX.out]; rfl, K9.out⟩
  · have HX : Hid (ofL L = N ++ ({ data := #[32] } ++ s)) := Lib.hid (bytes_ext (by rw [ofL_list, HLN.out, app_list, app_list]; simp))
    clear IA7 IBA
    go_wp2
    go_ret
    exact ⟨by rw [HX.out]; rfl, K7.out⟩

end Go.Proofs.YtoombjbpblighaaDoor
