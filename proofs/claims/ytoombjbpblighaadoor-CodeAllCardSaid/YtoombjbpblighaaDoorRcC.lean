/-
  Layer 8: the document's Line. Written by an AI agent.
-/
import Derived.Test.YtoombjbpblighaaDoorRcB
namespace Go.Proofs.YtoombjbpblighaaDoor
open Go Go.RowKit Go.Shelf
set_option linter.unusedVariables false
set_option linter.unusedSimpArgs false

set_option maxRecDepth 100000 in
set_option maxHeartbeats 8000000 in
theorem rline_any (op a b : Int) (s : ByteArray) (h0 : -9223372036854775808 ≤ op) (h1 : op ≤ 9223372036854775807) (ha0 : -9223372036854775808 ≤ a) (ha1 : a ≤ 9223372036854775807) (hb0 : -9223372036854775808 ≤ b) (hb1 : b ≤ 9223372036854775807) (hs : s.size ≤ 100000) (w : World) (hw : CodeW w) :
    Calls Tryd.prog 36 #[.agg #[.int .i64 op, .int .i64 a, .int .i64 b, .string s]] w fun e w' => e = .returned (.string (ofL (lineN op a b s.data.toList))) ∧ Keeps (fun _ => False) w w' := by
  have HW := Lib.hid hw
  clear hw
  have hfour := has_four op
  have hln : lineN op a b s.data.toList = nameN op ++ (if hasN op = 1 ∨ hasN op = 3 then 32 :: Lib.itoa a else []) ++ (if hasN op = 3 then 32 :: Lib.itoa b else []) ++ (if hasN op = 4 then 32 :: s.data.toList else []) := rfl
  have la := Lib.itoa_length_le a ha0 ha1
  have lb := Lib.itoa_length_le b hb0 hb1
  have ln := name_le op
  have ea : hA op = decide (hasN op = 1 ∨ hasN op = 3) := rfl
  have eb : hB op = decide (hasN op = 3) := rfl
  have es : hS op = decide (hasN op = 4) := rfl
  have AC0 : Hid (∀ w, Calls Tryd.prog 51 #[.int .i64 op] w fun e w' => e = .returned (.bool (hA op)) ∧ Keeps (fun _ => False) w w') := fun w => hasA_any op w
  have BC0 : Hid (∀ w, Calls Tryd.prog 52 #[.int .i64 op] w fun e w' => e = .returned (.bool (hB op)) ∧ w = w') := fun w => hasB_any op w
  have SC0 : Hid (∀ w, Calls Tryd.prog 53 #[.int .i64 op] w fun e w' => e = .returned (.bool (hS op)) ∧ w = w') := fun w => hasS_any op w
  have NC0 : Hid (∀ w, Calls Tryd.prog 38 #[.int .i64 op] w fun e w' => e = .returned (.string (ofL (nameN op))) ∧ Keeps (fun _ => False) w w') := fun w => rname_any op w
  have IA0 : Hid (∀ w, CodeW w → Calls Tryd.prog 62 #[.int .i64 a] w fun e w' => e = .returned (.string (ofL (Lib.itoa a))) ∧ Keeps (fun _ => False) w w') := fun w h => itoa_any a ha0 ha1 w h
  have IB0 : Hid (∀ w, CodeW w → Calls Tryd.prog 62 #[.int .i64 b] w fun e w' => e = .returned (.string (ofL (Lib.itoa b))) ∧ Keeps (fun _ => False) w w') := fun w h => itoa_any b hb0 hb1 w h
  obtain ⟨o, ho⟩ : ∃ o, o = hasN op := ⟨_, rfl⟩
  obtain ⟨N, hN⟩ : ∃ N : ByteArray, N = ofL (nameN op) := ⟨_, rfl⟩
  obtain ⟨A, hA2⟩ : ∃ A : ByteArray, A = ofL (Lib.itoa a) := ⟨_, rfl⟩
  obtain ⟨B, hB2⟩ : ∃ B : ByteArray, B = ofL (Lib.itoa b) := ⟨_, rfl⟩
  obtain ⟨L, hL⟩ : ∃ L, L = lineN op a b s.data.toList := ⟨_, rfl⟩
  have hNs : N.size ≤ 6 := by rw [hN, ofL_size]; exact ln
  have hAs : A.size ≤ 21 := by rw [hA2, ofL_size]; exact la
  have hBs : B.size ≤ 21 := by rw [hB2, ofL_size]; exact lb
  have hNl : N.data.toList = nameN op := by rw [hN, ofL_list]
  have hAl : A.data.toList = Lib.itoa a := by rw [hA2, ofL_list]
  have hBl : B.data.toList = Lib.itoa b := by rw [hB2, ofL_list]
  rw [← hL, ← hNl, ← hAl, ← hBl, ← ho] at hln
  rw [← ho] at ea eb es
  rw [ea] at AC0
  rw [eb] at BC0
  rw [es] at SC0
  rw [← ho] at hfour
  rw [← hN] at NC0
  rw [← hA2] at IA0
  rw [← hB2] at IB0
  rw [← hL]
  have HLN := Lib.hid hln
  clear hln la lb ln ho hN hA2 hB2 hL hNl hAl hBl ea eb es
  go_enter Tryd.func36, Tryd.ntmps36
  go_upto_region 1 with fail
  generalize hwA : w.alloc _ = wA
  have kA : Keeps (fun _ => False) w wA := by rw [← hwA]; exact (Keeps.refl _ _).alloc _
  have c0 : wA.cell? ⟨w.heap.size, 0, none⟩ = some (.int .i64 op) := by rw [← hwA]; simp
  have c1 : wA.cell? ⟨w.heap.size, 1, none⟩ = some (.int .i64 a) := by rw [← hwA]; simp
  have c2 : wA.cell? ⟨w.heap.size, 2, none⟩ = some (.int .i64 b) := by rw [← hwA]; simp
  have c3 : wA.cell? ⟨w.heap.size, 3, none⟩ = some (.string s) := by rw [← hwA]; simp
  obtain ⟨pn, hpn⟩ : ∃ pn, pn = w.heap.size := ⟨_, rfl⟩
  rw [← hpn] at c0 c1 c2 c3 ⊢
  have hbl := cell_ltk c0
  have KA := Lib.hid kA
  have CP : Hid (∀ wq, Keeps (fun _ => False) wA wq → wq.cell? ⟨pn, 0, none⟩ = some (.int .i64 op) ∧ wq.cell? ⟨pn, 1, none⟩ = some (.int .i64 a) ∧ wq.cell? ⟨pn, 2, none⟩ = some (.int .i64 b) ∧ wq.cell? ⟨pn, 3, none⟩ = some (.string s) ∧ pn < wq.heap.size) := Lib.hid fun wq k => ⟨(k.cell hbl (fun h => h)).trans c0, (k.cell hbl (fun h => h)).trans c1, (k.cell hbl (fun h => h)).trans c2, (k.cell hbl (fun h => h)).trans c3, Nat.lt_of_lt_of_le hbl k.size⟩
  clear kA hwA hpn c1 c2 c3
  go_wp2_with fail
  refine (NC0.out _).mono ?_
  rintro e w1 ⟨rfl, k1⟩
  clear c0 hbl
  obtain ⟨c0, c1, c2, c3, hbl⟩ := CP.out w1 k1
  have K1 := Lib.hid k1
  clear k1 NC0 c1 c2 c3
  go_wp2_with fail
  refine (AC0.out _).mono ?_
  rintro e w2 ⟨rfl, k2⟩
  have K2 := Lib.hid (K1.out.trans k2 (fun _ _ h => h))
  clear c0 hbl k2 K1 AC0
  obtain ⟨c0, c1, c2, c3, hbl⟩ := CP.out w2 K2.out
  rcases hfour with rfl | rfl | rfl | rfl
  · have HX : Hid (ofL L = N) := Lib.hid (bytes_ext (by rw [ofL_list, HLN.out]; simp))
    have da : decide (((0 : Int) = 1) ∨ ((0 : Int) = 3)) = false := by decide
    have db : decide ((0 : Int) = 3) = false := by decide
    have ds : decide ((0 : Int) = 4) = false := by decide
    rw [db] at BC0
    rw [ds] at SC0
    rw [da]
    clear da db ds
    go_wp2_with (first | (go_at_call 52; refine (BC0.out _).mono ?_; rintro e w' ⟨rfl, rfl⟩) | (go_at_call 53; refine (SC0.out _).mono ?_; rintro e w' ⟨rfl, rfl⟩))
    go_ret
    exact ⟨by rw [HX.out]; rfl, KA.out.trans K2.out (fun _ _ h => h)⟩
  · have HX : Hid (ofL L = N ++ { data := #[32] } ++ A) := Lib.hid (bytes_ext (by rw [ofL_list, HLN.out, app_list, app_list]; simp))
    have da : decide (((1 : Int) = 1) ∨ ((1 : Int) = 3)) = true := by decide
    have db : decide ((1 : Int) = 3) = false := by decide
    have ds : decide ((1 : Int) = 4) = false := by decide
    rw [db] at BC0
    rw [ds] at SC0
    rw [da]
    clear da db ds
    have CW2 := HW.out.keep (KA.out.trans K2.out (fun _ _ h => h))
    go_wp2_with (first | (go_at_call 52; refine (BC0.out _).mono ?_; rintro e w' ⟨rfl, rfl⟩) | (go_at_call 53; refine (SC0.out _).mono ?_; rintro e w' ⟨rfl, rfl⟩))
    refine (IA0.out _ CW2).mono ?_
    rintro e w3 ⟨rfl, k3⟩
    have K3 := Lib.hid (K2.out.trans k3 (fun _ _ h => h))
    clear c0 c1 c2 c3 hbl k3 CW2 K2
    obtain ⟨c0, c1, c2, c3, hbl⟩ := CP.out w3 K3.out
    go_wp2_with (first | (go_at_call 52; refine (BC0.out _).mono ?_; rintro e w' ⟨rfl, rfl⟩) | (go_at_call 53; refine (SC0.out _).mono ?_; rintro e w' ⟨rfl, rfl⟩))
    go_ret
    exact ⟨by rw [HX.out]; rfl, KA.out.trans K3.out (fun _ _ h => h)⟩
  · have HX : Hid (ofL L = N ++ { data := #[32] } ++ A ++ { data := #[32] } ++ B) := Lib.hid (bytes_ext (by rw [ofL_list, HLN.out, app_list, app_list, app_list, app_list]; simp))
    have da : decide (((3 : Int) = 1) ∨ ((3 : Int) = 3)) = true := by decide
    have db : decide ((3 : Int) = 3) = true := by decide
    have ds : decide ((3 : Int) = 4) = false := by decide
    rw [db] at BC0
    rw [ds] at SC0
    rw [da]
    clear da db ds
    have CW2 := HW.out.keep (KA.out.trans K2.out (fun _ _ h => h))
    go_wp2_with (first | (go_at_call 52; refine (BC0.out _).mono ?_; rintro e w' ⟨rfl, rfl⟩) | (go_at_call 53; refine (SC0.out _).mono ?_; rintro e w' ⟨rfl, rfl⟩))
    refine (IA0.out _ CW2).mono ?_
    rintro e w3 ⟨rfl, k3⟩
    have K3 := Lib.hid (K2.out.trans k3 (fun _ _ h => h))
    clear c0 c1 c2 c3 hbl k3 CW2 K2
    obtain ⟨c0, c1, c2, c3, hbl⟩ := CP.out w3 K3.out
    have CW3 := HW.out.keep (KA.out.trans K3.out (fun _ _ h => h))
    go_wp2_with (first | (go_at_call 52; refine (BC0.out _).mono ?_; rintro e w' ⟨rfl, rfl⟩) | (go_at_call 53; refine (SC0.out _).mono ?_; rintro e w' ⟨rfl, rfl⟩))
    refine (IB0.out _ CW3).mono ?_
    rintro e w4 ⟨rfl, k4⟩
    have K4 := Lib.hid (K3.out.trans k4 (fun _ _ h => h))
    clear c0 c1 c2 c3 hbl k4 CW3 K3
    obtain ⟨c0, c1, c2, c3, hbl⟩ := CP.out w4 K4.out
    go_wp2_with (first | (go_at_call 52; refine (BC0.out _).mono ?_; rintro e w' ⟨rfl, rfl⟩) | (go_at_call 53; refine (SC0.out _).mono ?_; rintro e w' ⟨rfl, rfl⟩))
    go_ret
    exact ⟨by rw [HX.out]; rfl, KA.out.trans K4.out (fun _ _ h => h)⟩
  · have HX : Hid (ofL L = N ++ { data := #[32] } ++ s) := Lib.hid (bytes_ext (by rw [ofL_list, HLN.out, app_list, app_list]; simp))
    have da : decide (((4 : Int) = 1) ∨ ((4 : Int) = 3)) = false := by decide
    have db : decide ((4 : Int) = 3) = false := by decide
    have ds : decide ((4 : Int) = 4) = true := by decide
    rw [db] at BC0
    rw [ds] at SC0
    rw [da]
    clear da db ds
    go_wp2_with (first | (go_at_call 52; refine (BC0.out _).mono ?_; rintro e w' ⟨rfl, rfl⟩) | (go_at_call 53; refine (SC0.out _).mono ?_; rintro e w' ⟨rfl, rfl⟩))
    go_ret
    exact ⟨by rw [HX.out]; rfl, KA.out.trans K2.out (fun _ _ h => h)⟩
end Go.Proofs.YtoombjbpblighaaDoor
