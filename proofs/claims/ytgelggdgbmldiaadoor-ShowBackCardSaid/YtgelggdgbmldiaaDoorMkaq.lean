/-
  Layer 3: the program's text of an expression. Written by an AI agent.
  Layer 3: the program's text of an expression. Written by an AI agent.
  Layer 3: the program's text of an expression. Written by an AI agent.
-/
import Derived.Test.YtgelggdgbmldiaaDoorMkao
namespace Go.Proofs.YtgelggdgbmldiaaDoor
open Go Go.RowKit Go.Shelf
set_option linter.unusedVariables false
set_option linter.unusedSimpArgs false
set_option maxRecDepth 100000 in
set_option maxHeartbeats 16000000 in
theorem px_index (Q : List UInt8 → Prop) (nd : List Nd) (fs : List Fnc) (A A' : Option Addr) (m k c c' : Nat) (hm : m = nd.length) (s : List UInt8) (e : Ex) (hlen : s.length + (showE e).length ≤ 1000000) (hc : PXC Q nd fs A A' m k c c' e) : PXC Q nd fs A A' m k c c' (.index s e) := by
  have HL := Lib.hid hlen
  have HC := Lib.hid hc
  clear hlen hc
  intro i w hw hT hR
  obtain ⟨x, ha, _, hx⟩ := hR
  obtain ⟨j, b, off, ln, a, cc, rfl, hj, rfl, hn⟩ := hT.node ha
  rw [← hm] at hj
  have hjI : (j : Int) < (m : Int) := by omega
  have hj0 : (0 : Int) ≤ (j : Int) := by omega
  have HT := Lib.hid hT
  have HX := Lib.hid hx
  clear hx
  have HW := Lib.hid hw
  have HN := Lib.hid hn
  have HM := Lib.hid hm
  clear hT hw ha hj hm
  go_enter Tryd.func20, Tryd.ntmps20
  go_upto_region 1 with fail
  have ka := Keeps.one w (.cells #[.slice (some ⟨b, off, none⟩) m c, .slice A' k c'] 27)
  obtain ⟨P1, hP1⟩ : ∃ X, X = w.heap.size := ⟨_, rfl⟩
  obtain ⟨w1, hw1⟩ : ∃ w1, w1 = w.alloc (.cells #[.slice (some ⟨b, off, none⟩) m c, .slice A' k c'] 27) := ⟨_, rfl⟩
  have HX1 : Hid (Loc w1 (fun _ => False) P1 [.slice (some ⟨b, off, none⟩) m c, .slice A' k c']) := Lib.hid (by rw [hw1, hP1]; exact Loc.new (fun h => h) [.slice (some ⟨b, off, none⟩) m c, .slice A' k c'] 27)
  have HN1 := Lib.hid (HN.out.keep (hw1 ▸ ka))
  rw [← hP1]
  rw [← hw1] at ka ⊢
  have K1 := Lib.hid ka
  have HT1 := Lib.hid (HT.out.keep ka)
  clear ka hw1 hP1 HT HN
  have x0 := HX1.out.cells 0 _ rfl
  have x1 := HX1.out.cells 1 _ rfl
  have c0 := HN1.out.c0
  have c1 := HN1.out.c1
  have c2 := HN1.out.c2
  have c3 := HN1.out.c3
  have c4 : w1.cell? ⟨b, off + j * 5 + 4, none⟩ = some (.slice a 1 cc) := HN1.out.c4
  go_upto_region 2 with fail
  have ka := Keeps.one w1 (.cells #[.int .i64 5, .int .i64 ln, .int .i64 0, .string (ofL s), .slice a 1 cc] 33)
  obtain ⟨P2, hP2⟩ : ∃ X, X = w1.heap.size := ⟨_, rfl⟩
  obtain ⟨w2, hw2⟩ : ∃ w2, w2 = w1.alloc (.cells #[.int .i64 5, .int .i64 ln, .int .i64 0, .string (ofL s), .slice a 1 cc] 33) := ⟨_, rfl⟩
  have HY2 : Hid (Loc w2 (fun _ => False) P2 [.int .i64 5, .int .i64 ln, .int .i64 0, .string (ofL s), .slice a 1 cc]) := Lib.hid (by rw [hw2, hP2]; exact Loc.new (fun h => h) [.int .i64 5, .int .i64 ln, .int .i64 0, .string (ofL s), .slice a 1 cc] 33)
  rw [← hP2]
  rw [← hw2] at ka ⊢
  have HX2 := Lib.hid (HX1.out.keeps ka)
  have HT2 := Lib.hid (HT1.out.keep ka)
  have HN2 := Lib.hid (HN1.out.keep ka)
  have K2 := Lib.hid (K1.out.trans ka (fun _ _ h => h))
  clear ka hw2 hP2 x0 x1 c0 c1 c2 c3 c4 HX1 HT1 HN1 K1
  have x0 := HX2.out.cells 0 _ rfl
  have x1 := HX2.out.cells 1 _ rfl
  have y0 := HY2.out.cells 0 _ rfl
  have y2 := HY2.out.cells 2 _ rfl
  have y3 := HY2.out.cells 3 _ rfl
  have y4 := HY2.out.cells 4 _ rfl
  obtain ⟨b0, o0, rfl, kc⟩ := HN2.out.ro.get (k := 0) (by simp) (x := x) rfl
  have kc : w2.cell? ⟨b0, o0, none⟩ = some (.int .i64 x) := kc
  obtain ⟨S2, hS2⟩ : ∃ S, S = ofL (parL (decide (lvE e < 0)) (showE e)) := ⟨_, rfl⟩
  have z2 : S2.size ≤ (showE e).length + 2 := by rw [hS2, ofL_size]; exact parL_len _ _
  have HS2 := Lib.hid hS2
  have CH : Hid (∀ w', Keeps (fun _ => False) w2 w' → Calls Tryd.prog 31 #[.int .i64 0, .int .i64 0, .pointer (some ⟨P2, 0, none⟩), .pointer (some ⟨P1, 0, none⟩)] w' fun r w'' => r = .returned (.string S2) ∧ Keeps (fun _ => False) w2 w'') := Lib.hid (fun w' q => by
    rw [HS2.out]
    exact (side_any Q nd fs _ A' m k c c' HM.out e (by have := HL.out; omega) HC.out 0 0 1 cc b0 o0 P1 P2 x (by decide) (by decide) w' (HW.out.keep (K2.out.trans q (fun _ _ h => h))) (HT2.out.keep q) HX.out ((q.cell (cell_ltk x0) (fun h => h)).trans x0) ((q.cell (cell_ltk x1) (fun h => h)).trans x1) ((q.cell (cell_ltk y4) (fun h => h)).trans y4) ((q.cell (cell_ltk kc) (fun h => h)).trans kc)).mono fun r w'' ⟨h1, h2⟩ => ⟨h1, q.trans h2 (fun _ _ h => h)⟩)
  obtain ⟨S1, hS1⟩ : ∃ S, S = ofL s := ⟨_, rfl⟩
  have z1 : S1.size = s.length := by rw [hS1]; exact ofL_size _
  have HS1 := Lib.hid hS1
  rw [← hS1] at y3
  have q0 : ¬ 9223372036854775807 < S1.size + 1 := by have := HL.out; omega
  have q1 : ¬ 9223372036854775807 < S1.size + 1 + S2.size := by have := HL.out; omega
  have q2 : ¬ 9223372036854775807 < S1.size + 1 + S2.size + 1 := by have := HL.out; omega
  have HM2 : Hid (S1 ++ { data := #[91] } ++ S2 ++ { data := #[93] } = ofL (showE (.index s e))) := Lib.hid (of_list (by rw [HS1.out, HS2.out]; simp [bap_list, ofL_list, showE, showR, parL]; done))
  have SK : Hid (∀ w', Keeps (fun _ => False) w2 w' → (w'.cell? ⟨P2, 3, none⟩ = some (.string S1)) ∧ Keeps (fun _ => False) w2 w') := Lib.hid (fun w' q => ⟨(q.cell (cell_ltk y3) (fun h => h)).trans y3, q⟩)
  clear hS2 z2 hS1 z1
  go_upto_region 13 with fail
  go_region_held3 (fun w' => (w'.cell? ⟨P2, 3, none⟩ = some (.string S1)) ∧ Keeps (fun _ => False) w2 w') (first | exact SK.out _ (Keeps.refl _ _) | exact SK.out _ (by assumption) | exact SK.out _ ((Keeps.refl _ _).drew) | exact SK.out _ (Keeps.drew (by assumption))) (first | (go_at_call 31; refine (CH.out _ (by first | assumption | exact (Keeps.refl _ _).drew | exact Keeps.drew (by assumption) | exact Keeps.refl _ _)).mono ?_; rintro e w3 ⟨rfl, k3⟩))
  all_goals go_wp2_with fail
  all_goals go_ret
  all_goals exact ⟨by (rw [HM2.out]; first | done | rfl), K2.out.trans (by first | assumption | exact Keeps.drew (by assumption)) (fun _ _ h => h)⟩
set_option maxRecDepth 100000 in
set_option maxHeartbeats 16000000 in
theorem px_len (Q : List UInt8 → Prop) (nd : List Nd) (fs : List Fnc) (A A' : Option Addr) (m k c c' : Nat) (hm : m = nd.length) (e : Ex) (hlen : (showE e).length ≤ 1000000) (hc : PXC Q nd fs A A' m k c c' e) : PXC Q nd fs A A' m k c c' (.len e) := by
  have HL := Lib.hid hlen
  have HC := Lib.hid hc
  clear hlen hc
  intro i w hw hT hR
  obtain ⟨x, ha, hx⟩ := hR
  obtain ⟨j, b, off, ln, a, cc, rfl, hj, rfl, hn⟩ := hT.node ha
  rw [← hm] at hj
  have hjI : (j : Int) < (m : Int) := by omega
  have hj0 : (0 : Int) ≤ (j : Int) := by omega
  have HT := Lib.hid hT
  have HX := Lib.hid hx
  clear hx
  have HW := Lib.hid hw
  have HN := Lib.hid hn
  have HM := Lib.hid hm
  clear hT hw ha hj hm
  go_enter Tryd.func20, Tryd.ntmps20
  go_upto_region 1 with fail
  have ka := Keeps.one w (.cells #[.slice (some ⟨b, off, none⟩) m c, .slice A' k c'] 27)
  obtain ⟨P1, hP1⟩ : ∃ X, X = w.heap.size := ⟨_, rfl⟩
  obtain ⟨w1, hw1⟩ : ∃ w1, w1 = w.alloc (.cells #[.slice (some ⟨b, off, none⟩) m c, .slice A' k c'] 27) := ⟨_, rfl⟩
  have HX1 : Hid (Loc w1 (fun _ => False) P1 [.slice (some ⟨b, off, none⟩) m c, .slice A' k c']) := Lib.hid (by rw [hw1, hP1]; exact Loc.new (fun h => h) [.slice (some ⟨b, off, none⟩) m c, .slice A' k c'] 27)
  have HN1 := Lib.hid (HN.out.keep (hw1 ▸ ka))
  rw [← hP1]
  rw [← hw1] at ka ⊢
  have K1 := Lib.hid ka
  have HT1 := Lib.hid (HT.out.keep ka)
  clear ka hw1 hP1 HT HN
  have x0 := HX1.out.cells 0 _ rfl
  have x1 := HX1.out.cells 1 _ rfl
  have c0 := HN1.out.c0
  have c1 := HN1.out.c1
  have c2 := HN1.out.c2
  have c3 := HN1.out.c3
  have c4 : w1.cell? ⟨b, off + j * 5 + 4, none⟩ = some (.slice a 1 cc) := HN1.out.c4
  go_upto_region 2 with fail
  have ka := Keeps.one w1 (.cells #[.int .i64 6, .int .i64 ln, .int .i64 0, .string (ofL []), .slice a 1 cc] 33)
  obtain ⟨P2, hP2⟩ : ∃ X, X = w1.heap.size := ⟨_, rfl⟩
  obtain ⟨w2, hw2⟩ : ∃ w2, w2 = w1.alloc (.cells #[.int .i64 6, .int .i64 ln, .int .i64 0, .string (ofL []), .slice a 1 cc] 33) := ⟨_, rfl⟩
  have HY2 : Hid (Loc w2 (fun _ => False) P2 [.int .i64 6, .int .i64 ln, .int .i64 0, .string (ofL []), .slice a 1 cc]) := Lib.hid (by rw [hw2, hP2]; exact Loc.new (fun h => h) [.int .i64 6, .int .i64 ln, .int .i64 0, .string (ofL []), .slice a 1 cc] 33)
  rw [← hP2]
  rw [← hw2] at ka ⊢
  have HX2 := Lib.hid (HX1.out.keeps ka)
  have HT2 := Lib.hid (HT1.out.keep ka)
  have HN2 := Lib.hid (HN1.out.keep ka)
  have K2 := Lib.hid (K1.out.trans ka (fun _ _ h => h))
  clear ka hw2 hP2 x0 x1 c0 c1 c2 c3 c4 HX1 HT1 HN1 K1
  have x0 := HX2.out.cells 0 _ rfl
  have x1 := HX2.out.cells 1 _ rfl
  have y0 := HY2.out.cells 0 _ rfl
  have y2 := HY2.out.cells 2 _ rfl
  have y3 := HY2.out.cells 3 _ rfl
  have y4 := HY2.out.cells 4 _ rfl
  obtain ⟨b0, o0, rfl, kc⟩ := HN2.out.ro.get (k := 0) (by simp) (x := x) rfl
  have kc : w2.cell? ⟨b0, o0, none⟩ = some (.int .i64 x) := kc
  obtain ⟨S2, hS2⟩ : ∃ S, S = ofL (parL (decide (lvE e < 0)) (showE e)) := ⟨_, rfl⟩
  have z2 : S2.size ≤ (showE e).length + 2 := by rw [hS2, ofL_size]; exact parL_len _ _
  have HS2 := Lib.hid hS2
  have CH : Hid (∀ w', Keeps (fun _ => False) w2 w' → Calls Tryd.prog 31 #[.int .i64 0, .int .i64 0, .pointer (some ⟨P2, 0, none⟩), .pointer (some ⟨P1, 0, none⟩)] w' fun r w'' => r = .returned (.string S2) ∧ Keeps (fun _ => False) w2 w'') := Lib.hid (fun w' q => by
    rw [HS2.out]
    exact (side_any Q nd fs _ A' m k c c' HM.out e (by have := HL.out; omega) HC.out 0 0 1 cc b0 o0 P1 P2 x (by decide) (by decide) w' (HW.out.keep (K2.out.trans q (fun _ _ h => h))) (HT2.out.keep q) HX.out ((q.cell (cell_ltk x0) (fun h => h)).trans x0) ((q.cell (cell_ltk x1) (fun h => h)).trans x1) ((q.cell (cell_ltk y4) (fun h => h)).trans y4) ((q.cell (cell_ltk kc) (fun h => h)).trans kc)).mono fun r w'' ⟨h1, h2⟩ => ⟨h1, q.trans h2 (fun _ _ h => h)⟩)
  have q0 : ¬ 9223372036854775807 < 4 + S2.size := by have := HL.out; omega
  have q1 : ¬ 9223372036854775807 < 4 + S2.size + 1 := by have := HL.out; omega
  have HM2 : Hid (({ data := #[108, 101, 110, 40] } : ByteArray) ++ S2 ++ { data := #[41] } = ofL (showE (.len e))) := Lib.hid (of_list (by rw [HS2.out]; simp [bap_list, ofL_list, showE, showR, parL]; done))
  clear hS2 z2
  go_wp2_with (first | (go_at_call 31; refine (CH.out _ (Keeps.refl _ _)).mono ?_; rintro e w3 ⟨rfl, k3⟩))
  go_ret
  exact ⟨by (rw [HM2.out]; first | done | rfl), K2.out.trans k3 (fun _ _ h => h)⟩
set_option maxRecDepth 100000 in
set_option maxHeartbeats 16000000 in
theorem px_neg (Q : List UInt8 → Prop) (nd : List Nd) (fs : List Fnc) (A A' : Option Addr) (m k c c' : Nat) (hm : m = nd.length) (e : Ex) (hlen : (showE e).length ≤ 1000000) (hc : PXC Q nd fs A A' m k c c' e) : PXC Q nd fs A A' m k c c' (.neg e) := by
  have HL := Lib.hid hlen
  have HC := Lib.hid hc
  clear hlen hc
  intro i w hw hT hR
  obtain ⟨x, ha, hx⟩ := hR
  obtain ⟨j, b, off, ln, a, cc, rfl, hj, rfl, hn⟩ := hT.node ha
  rw [← hm] at hj
  have hjI : (j : Int) < (m : Int) := by omega
  have hj0 : (0 : Int) ≤ (j : Int) := by omega
  have HT := Lib.hid hT
  have HX := Lib.hid hx
  clear hx
  have HW := Lib.hid hw
  have HN := Lib.hid hn
  have HM := Lib.hid hm
  clear hT hw ha hj hm
  go_enter Tryd.func20, Tryd.ntmps20
  go_upto_region 1 with fail
  have ka := Keeps.one w (.cells #[.slice (some ⟨b, off, none⟩) m c, .slice A' k c'] 27)
  obtain ⟨P1, hP1⟩ : ∃ X, X = w.heap.size := ⟨_, rfl⟩
  obtain ⟨w1, hw1⟩ : ∃ w1, w1 = w.alloc (.cells #[.slice (some ⟨b, off, none⟩) m c, .slice A' k c'] 27) := ⟨_, rfl⟩
  have HX1 : Hid (Loc w1 (fun _ => False) P1 [.slice (some ⟨b, off, none⟩) m c, .slice A' k c']) := Lib.hid (by rw [hw1, hP1]; exact Loc.new (fun h => h) [.slice (some ⟨b, off, none⟩) m c, .slice A' k c'] 27)
  have HN1 := Lib.hid (HN.out.keep (hw1 ▸ ka))
  rw [← hP1]
  rw [← hw1] at ka ⊢
  have K1 := Lib.hid ka
  have HT1 := Lib.hid (HT.out.keep ka)
  clear ka hw1 hP1 HT HN
  have x0 := HX1.out.cells 0 _ rfl
  have x1 := HX1.out.cells 1 _ rfl
  have c0 := HN1.out.c0
  have c1 := HN1.out.c1
  have c2 := HN1.out.c2
  have c3 := HN1.out.c3
  have c4 : w1.cell? ⟨b, off + j * 5 + 4, none⟩ = some (.slice a 1 cc) := HN1.out.c4
  go_upto_region 2 with fail
  have ka := Keeps.one w1 (.cells #[.int .i64 7, .int .i64 ln, .int .i64 0, .string (ofL []), .slice a 1 cc] 33)
  obtain ⟨P2, hP2⟩ : ∃ X, X = w1.heap.size := ⟨_, rfl⟩
  obtain ⟨w2, hw2⟩ : ∃ w2, w2 = w1.alloc (.cells #[.int .i64 7, .int .i64 ln, .int .i64 0, .string (ofL []), .slice a 1 cc] 33) := ⟨_, rfl⟩
  have HY2 : Hid (Loc w2 (fun _ => False) P2 [.int .i64 7, .int .i64 ln, .int .i64 0, .string (ofL []), .slice a 1 cc]) := Lib.hid (by rw [hw2, hP2]; exact Loc.new (fun h => h) [.int .i64 7, .int .i64 ln, .int .i64 0, .string (ofL []), .slice a 1 cc] 33)
  rw [← hP2]
  rw [← hw2] at ka ⊢
  have HX2 := Lib.hid (HX1.out.keeps ka)
  have HT2 := Lib.hid (HT1.out.keep ka)
  have HN2 := Lib.hid (HN1.out.keep ka)
  have K2 := Lib.hid (K1.out.trans ka (fun _ _ h => h))
  clear ka hw2 hP2 x0 x1 c0 c1 c2 c3 c4 HX1 HT1 HN1 K1
  have x0 := HX2.out.cells 0 _ rfl
  have x1 := HX2.out.cells 1 _ rfl
  have y0 := HY2.out.cells 0 _ rfl
  have y2 := HY2.out.cells 2 _ rfl
  have y3 := HY2.out.cells 3 _ rfl
  have y4 := HY2.out.cells 4 _ rfl
  obtain ⟨b0, o0, rfl, kc⟩ := HN2.out.ro.get (k := 0) (by simp) (x := x) rfl
  have kc : w2.cell? ⟨b0, o0, none⟩ = some (.int .i64 x) := kc
  obtain ⟨S2, hS2⟩ : ∃ S, S = ofL (parL (decide (lvE e < 5)) (showE e)) := ⟨_, rfl⟩
  have z2 : S2.size ≤ (showE e).length + 2 := by rw [hS2, ofL_size]; exact parL_len _ _
  have HS2 := Lib.hid hS2
  have CH : Hid (∀ w', Keeps (fun _ => False) w2 w' → Calls Tryd.prog 31 #[.int .i64 0, .int .i64 5, .pointer (some ⟨P2, 0, none⟩), .pointer (some ⟨P1, 0, none⟩)] w' fun r w'' => r = .returned (.string S2) ∧ Keeps (fun _ => False) w2 w'') := Lib.hid (fun w' q => by
    rw [HS2.out]
    exact (side_any Q nd fs _ A' m k c c' HM.out e (by have := HL.out; omega) HC.out 0 5 1 cc b0 o0 P1 P2 x (by decide) (by decide) w' (HW.out.keep (K2.out.trans q (fun _ _ h => h))) (HT2.out.keep q) HX.out ((q.cell (cell_ltk x0) (fun h => h)).trans x0) ((q.cell (cell_ltk x1) (fun h => h)).trans x1) ((q.cell (cell_ltk y4) (fun h => h)).trans y4) ((q.cell (cell_ltk kc) (fun h => h)).trans kc)).mono fun r w'' ⟨h1, h2⟩ => ⟨h1, q.trans h2 (fun _ _ h => h)⟩)
  have q0 : ¬ 9223372036854775807 < 1 + S2.size := by have := HL.out; omega
  have HM2 : Hid (({ data := #[45] } : ByteArray) ++ S2 = ofL (showE (.neg e))) := Lib.hid (of_list (by rw [HS2.out]; simp [bap_list, ofL_list, showE, showR]; done))
  clear hS2 z2
  go_wp2_with (first | (go_at_call 31; refine (CH.out _ (Keeps.refl _ _)).mono ?_; rintro e w3 ⟨rfl, k3⟩))
  go_ret
  exact ⟨by (rw [HM2.out]; first | done | rfl), K2.out.trans k3 (fun _ _ h => h)⟩
set_option maxRecDepth 100000 in
set_option maxHeartbeats 16000000 in
theorem px_not (Q : List UInt8 → Prop) (nd : List Nd) (fs : List Fnc) (A A' : Option Addr) (m k c c' : Nat) (hm : m = nd.length) (e : Ex) (hlen : (showE e).length ≤ 1000000) (hc : PXC Q nd fs A A' m k c c' e) : PXC Q nd fs A A' m k c c' (.not e) := by
  have HL := Lib.hid hlen
  have HC := Lib.hid hc
  clear hlen hc
  intro i w hw hT hR
  obtain ⟨x, ha, hx⟩ := hR
  obtain ⟨j, b, off, ln, a, cc, rfl, hj, rfl, hn⟩ := hT.node ha
  rw [← hm] at hj
  have hjI : (j : Int) < (m : Int) := by omega
  have hj0 : (0 : Int) ≤ (j : Int) := by omega
  have HT := Lib.hid hT
  have HX := Lib.hid hx
  clear hx
  have HW := Lib.hid hw
  have HN := Lib.hid hn
  have HM := Lib.hid hm
  clear hT hw ha hj hm
  go_enter Tryd.func20, Tryd.ntmps20
  go_upto_region 1 with fail
  have ka := Keeps.one w (.cells #[.slice (some ⟨b, off, none⟩) m c, .slice A' k c'] 27)
  obtain ⟨P1, hP1⟩ : ∃ X, X = w.heap.size := ⟨_, rfl⟩
  obtain ⟨w1, hw1⟩ : ∃ w1, w1 = w.alloc (.cells #[.slice (some ⟨b, off, none⟩) m c, .slice A' k c'] 27) := ⟨_, rfl⟩
  have HX1 : Hid (Loc w1 (fun _ => False) P1 [.slice (some ⟨b, off, none⟩) m c, .slice A' k c']) := Lib.hid (by rw [hw1, hP1]; exact Loc.new (fun h => h) [.slice (some ⟨b, off, none⟩) m c, .slice A' k c'] 27)
  have HN1 := Lib.hid (HN.out.keep (hw1 ▸ ka))
  rw [← hP1]
  rw [← hw1] at ka ⊢
  have K1 := Lib.hid ka
  have HT1 := Lib.hid (HT.out.keep ka)
  clear ka hw1 hP1 HT HN
  have x0 := HX1.out.cells 0 _ rfl
  have x1 := HX1.out.cells 1 _ rfl
  have c0 := HN1.out.c0
  have c1 := HN1.out.c1
  have c2 := HN1.out.c2
  have c3 := HN1.out.c3
  have c4 : w1.cell? ⟨b, off + j * 5 + 4, none⟩ = some (.slice a 1 cc) := HN1.out.c4
  go_upto_region 2 with fail
  have ka := Keeps.one w1 (.cells #[.int .i64 8, .int .i64 ln, .int .i64 0, .string (ofL []), .slice a 1 cc] 33)
  obtain ⟨P2, hP2⟩ : ∃ X, X = w1.heap.size := ⟨_, rfl⟩
  obtain ⟨w2, hw2⟩ : ∃ w2, w2 = w1.alloc (.cells #[.int .i64 8, .int .i64 ln, .int .i64 0, .string (ofL []), .slice a 1 cc] 33) := ⟨_, rfl⟩
  have HY2 : Hid (Loc w2 (fun _ => False) P2 [.int .i64 8, .int .i64 ln, .int .i64 0, .string (ofL []), .slice a 1 cc]) := Lib.hid (by rw [hw2, hP2]; exact Loc.new (fun h => h) [.int .i64 8, .int .i64 ln, .int .i64 0, .string (ofL []), .slice a 1 cc] 33)
  rw [← hP2]
  rw [← hw2] at ka ⊢
  have HX2 := Lib.hid (HX1.out.keeps ka)
  have HT2 := Lib.hid (HT1.out.keep ka)
  have HN2 := Lib.hid (HN1.out.keep ka)
  have K2 := Lib.hid (K1.out.trans ka (fun _ _ h => h))
  clear ka hw2 hP2 x0 x1 c0 c1 c2 c3 c4 HX1 HT1 HN1 K1
  have x0 := HX2.out.cells 0 _ rfl
  have x1 := HX2.out.cells 1 _ rfl
  have y0 := HY2.out.cells 0 _ rfl
  have y2 := HY2.out.cells 2 _ rfl
  have y3 := HY2.out.cells 3 _ rfl
  have y4 := HY2.out.cells 4 _ rfl
  obtain ⟨b0, o0, rfl, kc⟩ := HN2.out.ro.get (k := 0) (by simp) (x := x) rfl
  have kc : w2.cell? ⟨b0, o0, none⟩ = some (.int .i64 x) := kc
  obtain ⟨S2, hS2⟩ : ∃ S, S = ofL (parL (decide (lvE e < 5)) (showE e)) := ⟨_, rfl⟩
  have z2 : S2.size ≤ (showE e).length + 2 := by rw [hS2, ofL_size]; exact parL_len _ _
  have HS2 := Lib.hid hS2
  have CH : Hid (∀ w', Keeps (fun _ => False) w2 w' → Calls Tryd.prog 31 #[.int .i64 0, .int .i64 5, .pointer (some ⟨P2, 0, none⟩), .pointer (some ⟨P1, 0, none⟩)] w' fun r w'' => r = .returned (.string S2) ∧ Keeps (fun _ => False) w2 w'') := Lib.hid (fun w' q => by
    rw [HS2.out]
    exact (side_any Q nd fs _ A' m k c c' HM.out e (by have := HL.out; omega) HC.out 0 5 1 cc b0 o0 P1 P2 x (by decide) (by decide) w' (HW.out.keep (K2.out.trans q (fun _ _ h => h))) (HT2.out.keep q) HX.out ((q.cell (cell_ltk x0) (fun h => h)).trans x0) ((q.cell (cell_ltk x1) (fun h => h)).trans x1) ((q.cell (cell_ltk y4) (fun h => h)).trans y4) ((q.cell (cell_ltk kc) (fun h => h)).trans kc)).mono fun r w'' ⟨h1, h2⟩ => ⟨h1, q.trans h2 (fun _ _ h => h)⟩)
  have q0 : ¬ 9223372036854775807 < 1 + S2.size := by have := HL.out; omega
  have HM2 : Hid (({ data := #[33] } : ByteArray) ++ S2 = ofL (showE (.not e))) := Lib.hid (of_list (by rw [HS2.out]; simp [bap_list, ofL_list, showE, showR]; done))
  clear hS2 z2
  go_wp2_with (first | (go_at_call 31; refine (CH.out _ (Keeps.refl _ _)).mono ?_; rintro e w3 ⟨rfl, k3⟩))
  go_ret
  exact ⟨by (rw [HM2.out]; first | done | rfl), K2.out.trans k3 (fun _ _ h => h)⟩
set_option maxRecDepth 100000 in
set_option maxHeartbeats 16000000 in
theorem px_new (Q : List UInt8 → Prop) (nd : List Nd) (fs : List Fnc) (A A' : Option Addr) (m k c c' : Nat) (hm : m = nd.length) (e : Ex) (hlen : (showE e).length ≤ 1000000) (hc : PXC Q nd fs A A' m k c c' e) : PXR Q nd fs A A' m k c c' (.new e) := by
  have HL := Lib.hid hlen
  have HC := Lib.hid hc
  clear hlen hc
  intro i w hw hT hR
  obtain ⟨x, ha, hx⟩ := hR
  obtain ⟨j, b, off, ln, a, cc, rfl, hj, rfl, hn⟩ := hT.node ha
  rw [← hm] at hj
  have hjI : (j : Int) < (m : Int) := by omega
  have hj0 : (0 : Int) ≤ (j : Int) := by omega
  have HT := Lib.hid hT
  have HX := Lib.hid hx
  clear hx
  have HW := Lib.hid hw
  have HN := Lib.hid hn
  have HM := Lib.hid hm
  clear hT hw ha hj hm
  go_enter Tryd.func20, Tryd.ntmps20
  go_upto_region 1 with fail
  have ka := Keeps.one w (.cells #[.slice (some ⟨b, off, none⟩) m c, .slice A' k c'] 27)
  obtain ⟨P1, hP1⟩ : ∃ X, X = w.heap.size := ⟨_, rfl⟩
  obtain ⟨w1, hw1⟩ : ∃ w1, w1 = w.alloc (.cells #[.slice (some ⟨b, off, none⟩) m c, .slice A' k c'] 27) := ⟨_, rfl⟩
  have HX1 : Hid (Loc w1 (fun _ => False) P1 [.slice (some ⟨b, off, none⟩) m c, .slice A' k c']) := Lib.hid (by rw [hw1, hP1]; exact Loc.new (fun h => h) [.slice (some ⟨b, off, none⟩) m c, .slice A' k c'] 27)
  have HN1 := Lib.hid (HN.out.keep (hw1 ▸ ka))
  rw [← hP1]
  rw [← hw1] at ka ⊢
  have K1 := Lib.hid ka
  have HT1 := Lib.hid (HT.out.keep ka)
  clear ka hw1 hP1 HT HN
  have x0 := HX1.out.cells 0 _ rfl
  have x1 := HX1.out.cells 1 _ rfl
  have c0 := HN1.out.c0
  have c1 := HN1.out.c1
  have c2 := HN1.out.c2
  have c3 := HN1.out.c3
  have c4 : w1.cell? ⟨b, off + j * 5 + 4, none⟩ = some (.slice a 1 cc) := HN1.out.c4
  go_upto_region 2 with fail
  have ka := Keeps.one w1 (.cells #[.int .i64 20, .int .i64 ln, .int .i64 0, .string (ofL []), .slice a 1 cc] 33)
  obtain ⟨P2, hP2⟩ : ∃ X, X = w1.heap.size := ⟨_, rfl⟩
  obtain ⟨w2, hw2⟩ : ∃ w2, w2 = w1.alloc (.cells #[.int .i64 20, .int .i64 ln, .int .i64 0, .string (ofL []), .slice a 1 cc] 33) := ⟨_, rfl⟩
  have HY2 : Hid (Loc w2 (fun _ => False) P2 [.int .i64 20, .int .i64 ln, .int .i64 0, .string (ofL []), .slice a 1 cc]) := Lib.hid (by rw [hw2, hP2]; exact Loc.new (fun h => h) [.int .i64 20, .int .i64 ln, .int .i64 0, .string (ofL []), .slice a 1 cc] 33)
  rw [← hP2]
  rw [← hw2] at ka ⊢
  have HX2 := Lib.hid (HX1.out.keeps ka)
  have HT2 := Lib.hid (HT1.out.keep ka)
  have HN2 := Lib.hid (HN1.out.keep ka)
  have K2 := Lib.hid (K1.out.trans ka (fun _ _ h => h))
  clear ka hw2 hP2 x0 x1 c0 c1 c2 c3 c4 HX1 HT1 HN1 K1
  have x0 := HX2.out.cells 0 _ rfl
  have x1 := HX2.out.cells 1 _ rfl
  have y0 := HY2.out.cells 0 _ rfl
  have y2 := HY2.out.cells 2 _ rfl
  have y3 := HY2.out.cells 3 _ rfl
  have y4 := HY2.out.cells 4 _ rfl
  obtain ⟨b0, o0, rfl, kc⟩ := HN2.out.ro.get (k := 0) (by simp) (x := x) rfl
  have kc : w2.cell? ⟨b0, o0, none⟩ = some (.int .i64 x) := kc
  obtain ⟨S2, hS2⟩ : ∃ S, S = ofL (parL (decide (lvE e < 0)) (showE e)) := ⟨_, rfl⟩
  have z2 : S2.size ≤ (showE e).length + 2 := by rw [hS2, ofL_size]; exact parL_len _ _
  have HS2 := Lib.hid hS2
  have CH : Hid (∀ w', Keeps (fun _ => False) w2 w' → Calls Tryd.prog 31 #[.int .i64 0, .int .i64 0, .pointer (some ⟨P2, 0, none⟩), .pointer (some ⟨P1, 0, none⟩)] w' fun r w'' => r = .returned (.string S2) ∧ Keeps (fun _ => False) w2 w'') := Lib.hid (fun w' q => by
    rw [HS2.out]
    exact (side_any Q nd fs _ A' m k c c' HM.out e (by have := HL.out; omega) HC.out 0 0 1 cc b0 o0 P1 P2 x (by decide) (by decide) w' (HW.out.keep (K2.out.trans q (fun _ _ h => h))) (HT2.out.keep q) HX.out ((q.cell (cell_ltk x0) (fun h => h)).trans x0) ((q.cell (cell_ltk x1) (fun h => h)).trans x1) ((q.cell (cell_ltk y4) (fun h => h)).trans y4) ((q.cell (cell_ltk kc) (fun h => h)).trans kc)).mono fun r w'' ⟨h1, h2⟩ => ⟨h1, q.trans h2 (fun _ _ h => h)⟩)
  have q0 : ¬ 9223372036854775807 < 4 + S2.size := by have := HL.out; omega
  have q1 : ¬ 9223372036854775807 < 4 + S2.size + 1 := by have := HL.out; omega
  have HM2 : Hid (({ data := #[110, 101, 119, 40] } : ByteArray) ++ S2 ++ { data := #[41] } = ofL (showR (.new e))) := Lib.hid (of_list (by rw [HS2.out]; simp [bap_list, ofL_list, showE, showR, parL]; done))
  clear hS2 z2
  go_wp2_with (first | (go_at_call 31; refine (CH.out _ (Keeps.refl _ _)).mono ?_; rintro e w3 ⟨rfl, k3⟩))
  go_ret
  exact ⟨by (rw [HM2.out]; first | done | rfl), K2.out.trans k3 (fun _ _ h => h)⟩
end Go.Proofs.YtgelggdgbmldiaaDoor

namespace Go.Proofs.YtgelggdgbmldiaaDoor
open Go Go.RowKit Go.Shelf
set_option linter.unusedVariables false
set_option linter.unusedSimpArgs false
set_option maxRecDepth 100000 in
set_option maxHeartbeats 16000000 in
theorem px_bin2 (Q : List UInt8 → Prop) (nd : List Nd) (fs : List Fnc) (A A' : Option Addr) (m k c c' : Nat) (hm : m = nd.length) (s : List UInt8) (e f : Ex) (h2 : lvl s = 2) (hlen : s.length + (showE e).length + (showE f).length ≤ 1000000) (hce : PXC Q nd fs A A' m k c c' e) (hcf : PXC Q nd fs A A' m k c c' f) : PXC Q nd fs A A' m k c c' (.bin s e f) := by
  have HL := Lib.hid hlen
  have HC := Lib.hid hce
  have HD := Lib.hid hcf
  clear hlen hce hcf
  intro i w hw hT hR
  obtain ⟨x, y, ha, hs, hx, hy⟩ := hR
  obtain ⟨j, b, off, ln, a, cc, rfl, hj, rfl, hn⟩ := hT.node ha
  rw [← hm] at hj
  have hjI : (j : Int) < (m : Int) := by omega
  have hj0 : (0 : Int) ≤ (j : Int) := by omega
  have HT := Lib.hid hT
  have HX := Lib.hid hx
  have HY := Lib.hid hy
  have HS := Lib.hid hs
  have H2 := Lib.hid h2
  clear hx hy hs h2
  have HW := Lib.hid hw
  have HN := Lib.hid hn
  have HM := Lib.hid hm
  clear hT hw ha hj hm
  go_enter Tryd.func20, Tryd.ntmps20
  go_upto_region 1 with fail
  have ka := Keeps.one w (.cells #[.slice (some ⟨b, off, none⟩) m c, .slice A' k c'] 27)
  obtain ⟨P1, hP1⟩ : ∃ X, X = w.heap.size := ⟨_, rfl⟩
  obtain ⟨w1, hw1⟩ : ∃ w1, w1 = w.alloc (.cells #[.slice (some ⟨b, off, none⟩) m c, .slice A' k c'] 27) := ⟨_, rfl⟩
  have HX1 : Hid (Loc w1 (fun _ => False) P1 [.slice (some ⟨b, off, none⟩) m c, .slice A' k c']) := Lib.hid (by rw [hw1, hP1]; exact Loc.new (fun h => h) [.slice (some ⟨b, off, none⟩) m c, .slice A' k c'] 27)
  have HN1 := Lib.hid (HN.out.keep (hw1 ▸ ka))
  rw [← hP1]
  rw [← hw1] at ka ⊢
  have K1 := Lib.hid ka
  have HT1 := Lib.hid (HT.out.keep ka)
  clear ka hw1 hP1 HT HN
  have x0 := HX1.out.cells 0 _ rfl
  have x1 := HX1.out.cells 1 _ rfl
  have c0 := HN1.out.c0
  have c1 := HN1.out.c1
  have c2 := HN1.out.c2
  have c3 := HN1.out.c3
  have c4 : w1.cell? ⟨b, off + j * 5 + 4, none⟩ = some (.slice a 2 cc) := HN1.out.c4
  go_upto_region 2 with fail
  have ka := Keeps.one w1 (.cells #[.int .i64 9, .int .i64 ln, .int .i64 0, .string (ofL s), .slice a 2 cc] 33)
  obtain ⟨P2, hP2⟩ : ∃ X, X = w1.heap.size := ⟨_, rfl⟩
  obtain ⟨w2, hw2⟩ : ∃ w2, w2 = w1.alloc (.cells #[.int .i64 9, .int .i64 ln, .int .i64 0, .string (ofL s), .slice a 2 cc] 33) := ⟨_, rfl⟩
  have HY2 : Hid (Loc w2 (fun _ => False) P2 [.int .i64 9, .int .i64 ln, .int .i64 0, .string (ofL s), .slice a 2 cc]) := Lib.hid (by rw [hw2, hP2]; exact Loc.new (fun h => h) [.int .i64 9, .int .i64 ln, .int .i64 0, .string (ofL s), .slice a 2 cc] 33)
  rw [← hP2]
  rw [← hw2] at ka ⊢
  have HX2 := Lib.hid (HX1.out.keeps ka)
  have HT2 := Lib.hid (HT1.out.keep ka)
  have HN2 := Lib.hid (HN1.out.keep ka)
  have K2 := Lib.hid (K1.out.trans ka (fun _ _ h => h))
  clear ka hw2 hP2 x0 x1 c0 c1 c2 c3 c4 HX1 HT1 HN1 K1
  have x0 := HX2.out.cells 0 _ rfl
  have x1 := HX2.out.cells 1 _ rfl
  have y0 := HY2.out.cells 0 _ rfl
  have y2 := HY2.out.cells 2 _ rfl
  have y3 := HY2.out.cells 3 _ rfl
  have y4 := HY2.out.cells 4 _ rfl
  obtain ⟨b0, o0, rfl, kc⟩ := HN2.out.ro.get (k := 0) (by simp) (x := x) rfl
  obtain ⟨b1, o1, ea1, kd⟩ := HN2.out.ro.get (k := 1) (by simp) (x := y) rfl
  cases ea1
  have kc : w2.cell? ⟨b0, o0, none⟩ = some (.int .i64 x) := kc
  obtain ⟨kv, hkv⟩ : ∃ n, n = lvl s := ⟨_, rfl⟩
  have hk4 : kv ≤ 4 := by
    rw [hkv]
    unfold lvl
    repeat' split
    all_goals omega
  have HKV := Lib.hid hkv
  have LC : Hid (Calls Tryd.prog 18 #[.agg #[.int .i64 9, .int .i64 ln, .int .i64 0, .string (ofL s), .slice (some ⟨b0, o0, none⟩) 2 cc]] w2 fun r w'' => r = .returned (.int .i64 (kv : Int)) ∧ Keeps (fun _ => False) w2 w'') := Lib.hid (by
    have h := plevel_any 9 ln 0 s (some ⟨b0, o0, none⟩) 2 cc w2 (fun _ => HS.out)
    rw [show levK 9 s = kv by rw [HKV.out]; rfl] at h
    exact h)
  have y1 := HY2.out.cells 1 _ rfl
  clear hkv
  go_upto_region 21 with fail
  go_wp2_with fail
  refine LC.out.mono ?_
  rintro r w3 ⟨rfl, k3⟩
  have K3 := Lib.hid (K2.out.trans k3 (fun _ _ h => h))
  have HX3 := Lib.hid (HX2.out.keeps k3)
  have HY3 := Lib.hid (HY2.out.keeps k3)
  have HT3 := Lib.hid (HT2.out.keep k3)
  have kc := (k3.cell (cell_ltk kc) (fun h => h)).trans kc
  have kd := (k3.cell (cell_ltk kd) (fun h => h)).trans kd
  clear k3 LC x0 x1 y0 y1 y2 y3 y4 HX2 HY2 HT2 HN2 K2
  have x0 := HX3.out.cells 0 _ rfl
  have x1 := HX3.out.cells 1 _ rfl
  have y3 := HY3.out.cells 3 _ rfl
  have y4 := HY3.out.cells 4 _ rfl
  obtain rfl : kv = 2 := by rw [HKV.out]; exact H2.out
  have wk3 : IntKind.i64.wrap 3 = 3 := by decide
  obtain ⟨S1, hS1⟩ : ∃ S, S = ofL s := ⟨_, rfl⟩
  have z1 : Hid (S1.size = s.length) := Lib.hid (by rw [hS1]; exact ofL_size _)
  have HS1 := Lib.hid hS1
  rw [← hS1] at y3
  obtain ⟨S2, hS2⟩ : ∃ S, S = ofL (parL (decide (lvE e < 3)) (showE e)) := ⟨_, rfl⟩
  have z2 : Hid (S2.size ≤ (showE e).length + 2) := Lib.hid (by rw [hS2, ofL_size]; exact parL_len _ _)
  have HS2 := Lib.hid hS2
  obtain ⟨S3, hS3⟩ : ∃ S, S = ofL (parL (decide (lvE f < 3)) (showE f)) := ⟨_, rfl⟩
  have z3 : Hid (S3.size ≤ (showE f).length + 2) := Lib.hid (by rw [hS3, ofL_size]; exact parL_len _ _)
  have HS3 := Lib.hid hS3
  have CH : Hid (∀ w', Keeps (fun _ => False) w3 w' → Calls Tryd.prog 31 #[.int .i64 0, .int .i64 3, .pointer (some ⟨P2, 0, none⟩), .pointer (some ⟨P1, 0, none⟩)] w' fun r w'' => r = .returned (.string S2) ∧ Keeps (fun _ => False) w3 w'') := Lib.hid (fun w' q => by
    rw [HS2.out]
    exact (side_any Q nd fs _ A' m k c c' HM.out e (by have := HL.out; omega) HC.out 0 3 2 cc b0 o0 P1 P2 x (by decide) (by omega) w' (HW.out.keep (K3.out.trans q (fun _ _ h => h))) (HT3.out.keep q) HX.out ((q.cell (cell_ltk x0) (fun h => h)).trans x0) ((q.cell (cell_ltk x1) (fun h => h)).trans x1) ((q.cell (cell_ltk y4) (fun h => h)).trans y4) ((q.cell (cell_ltk kc) (fun h => h)).trans kc)).mono fun r w'' ⟨h1, h2⟩ => ⟨h1, q.trans h2 (fun _ _ h => h)⟩)
  have DH : Hid (∀ w', Keeps (fun _ => False) w3 w' → Calls Tryd.prog 31 #[.int .i64 1, .int .i64 3, .pointer (some ⟨P2, 0, none⟩), .pointer (some ⟨P1, 0, none⟩)] w' fun r w'' => r = .returned (.string S3) ∧ Keeps (fun _ => False) w3 w'') := Lib.hid (fun w' q => by
    rw [HS3.out]
    exact (side_any Q nd fs _ A' m k c c' HM.out f (by have := HL.out; omega) HD.out 1 3 2 cc b0 o0 P1 P2 y (by decide) (by omega) w' (HW.out.keep (K3.out.trans q (fun _ _ h => h))) (HT3.out.keep q) HY.out ((q.cell (cell_ltk x0) (fun h => h)).trans x0) ((q.cell (cell_ltk x1) (fun h => h)).trans x1) ((q.cell (cell_ltk y4) (fun h => h)).trans y4) ((q.cell (cell_ltk kd) (fun h => h)).trans kd)).mono fun r w'' ⟨h1, h2⟩ => ⟨h1, q.trans h2 (fun _ _ h => h)⟩)
  have q0 : ¬ 9223372036854775807 < S2.size + S1.size := by have h1 := HL.out; have h2 := z1.out; have h3 := z2.out; omega
  have q1 : ¬ 9223372036854775807 < S2.size + S1.size + S3.size := by have h1 := HL.out; have h2 := z1.out; have h3 := z2.out; have h4 := z3.out; omega
  have HM2 : Hid (S2 ++ S1 ++ S3 = ofL (showE (.bin s e f))) := Lib.hid (of_list (by
    rw [bap_list, bap_list, HS1.out, HS2.out, HS3.out, ofL_list, ofL_list, ofL_list]
    show _ = parL (decide (lvE e < leftL (lvl s))) (showE e) ++ (s ++ parL (decide (lvE f < lvl s + 1)) (showE f))
    rw [← HKV.out, List.append_assoc]
    rfl))
  have SK : Hid (∀ w', Keeps (fun _ => False) w3 w' → (w'.cell? ⟨P2, 3, none⟩ = some (.string S1)) ∧ Keeps (fun _ => False) w3 w') := Lib.hid (fun w' q => ⟨(q.cell (cell_ltk y3) (fun h => h)).trans y3, q⟩)
  clear hS1 hS2 hS3
  go_upto_region 25 with fail
  go_region_held3 (fun w' => (w'.cell? ⟨P2, 3, none⟩ = some (.string S1)) ∧ Keeps (fun _ => False) w3 w') (first | exact SK.out _ (Keeps.refl _ _) | exact SK.out _ (by assumption) | exact SK.out _ ((Keeps.refl _ _).drew) | exact SK.out _ (Keeps.drew (by assumption))) (first | (go_at_call 31; first | (with_reducible refine (CH.out _ (by first | assumption | exact (Keeps.refl _ _).drew | exact Keeps.drew (by assumption) | exact Keeps.refl _ _)).mono ?_; rintro r w4 ⟨rfl, k4⟩) | (with_reducible refine (DH.out _ (by first | assumption | exact (Keeps.refl _ _).drew | exact Keeps.drew (by assumption) | exact Keeps.refl _ _)).mono ?_; rintro r w4 ⟨rfl, k4⟩)))
  all_goals go_wp2_with fail
  all_goals go_ret
  all_goals exact ⟨by (rw [HM2.out]; first | done | rfl), K3.out.trans (by first | assumption | exact Keeps.drew (by assumption)) (fun _ _ h => h)⟩
end Go.Proofs.YtgelggdgbmldiaaDoor

namespace Go.Proofs.YtgelggdgbmldiaaDoor
open Go Go.RowKit Go.Shelf
set_option linter.unusedVariables false
set_option linter.unusedSimpArgs false
set_option maxRecDepth 100000 in
set_option maxHeartbeats 16000000 in
theorem px_binx (Q : List UInt8 → Prop) (nd : List Nd) (fs : List Fnc) (A A' : Option Addr) (m k c c' : Nat) (hm : m = nd.length) (s : List UInt8) (e f : Ex) (h2 : ¬ lvl s = 2) (hlen : s.length + (showE e).length + (showE f).length ≤ 1000000) (hce : PXC Q nd fs A A' m k c c' e) (hcf : PXC Q nd fs A A' m k c c' f) : PXC Q nd fs A A' m k c c' (.bin s e f) := by
  have HL := Lib.hid hlen
  have HC := Lib.hid hce
  have HD := Lib.hid hcf
  clear hlen hce hcf
  intro i w hw hT hR
  obtain ⟨x, y, ha, hs, hx, hy⟩ := hR
  obtain ⟨j, b, off, ln, a, cc, rfl, hj, rfl, hn⟩ := hT.node ha
  rw [← hm] at hj
  have hjI : (j : Int) < (m : Int) := by omega
  have hj0 : (0 : Int) ≤ (j : Int) := by omega
  have HT := Lib.hid hT
  have HX := Lib.hid hx
  have HY := Lib.hid hy
  have HS := Lib.hid hs
  have H2 := Lib.hid h2
  clear hx hy hs h2
  have HW := Lib.hid hw
  have HN := Lib.hid hn
  have HM := Lib.hid hm
  clear hT hw ha hj hm
  go_enter Tryd.func20, Tryd.ntmps20
  go_upto_region 1 with fail
  have ka := Keeps.one w (.cells #[.slice (some ⟨b, off, none⟩) m c, .slice A' k c'] 27)
  obtain ⟨P1, hP1⟩ : ∃ X, X = w.heap.size := ⟨_, rfl⟩
  obtain ⟨w1, hw1⟩ : ∃ w1, w1 = w.alloc (.cells #[.slice (some ⟨b, off, none⟩) m c, .slice A' k c'] 27) := ⟨_, rfl⟩
  have HX1 : Hid (Loc w1 (fun _ => False) P1 [.slice (some ⟨b, off, none⟩) m c, .slice A' k c']) := Lib.hid (by rw [hw1, hP1]; exact Loc.new (fun h => h) [.slice (some ⟨b, off, none⟩) m c, .slice A' k c'] 27)
  have HN1 := Lib.hid (HN.out.keep (hw1 ▸ ka))
  rw [← hP1]
  rw [← hw1] at ka ⊢
  have K1 := Lib.hid ka
  have HT1 := Lib.hid (HT.out.keep ka)
  clear ka hw1 hP1 HT HN
  have x0 := HX1.out.cells 0 _ rfl
  have x1 := HX1.out.cells 1 _ rfl
  have c0 := HN1.out.c0
  have c1 := HN1.out.c1
  have c2 := HN1.out.c2
  have c3 := HN1.out.c3
  have c4 : w1.cell? ⟨b, off + j * 5 + 4, none⟩ = some (.slice a 2 cc) := HN1.out.c4
  go_upto_region 2 with fail
  have ka := Keeps.one w1 (.cells #[.int .i64 9, .int .i64 ln, .int .i64 0, .string (ofL s), .slice a 2 cc] 33)
  obtain ⟨P2, hP2⟩ : ∃ X, X = w1.heap.size := ⟨_, rfl⟩
  obtain ⟨w2, hw2⟩ : ∃ w2, w2 = w1.alloc (.cells #[.int .i64 9, .int .i64 ln, .int .i64 0, .string (ofL s), .slice a 2 cc] 33) := ⟨_, rfl⟩
  have HY2 : Hid (Loc w2 (fun _ => False) P2 [.int .i64 9, .int .i64 ln, .int .i64 0, .string (ofL s), .slice a 2 cc]) := Lib.hid (by rw [hw2, hP2]; exact Loc.new (fun h => h) [.int .i64 9, .int .i64 ln, .int .i64 0, .string (ofL s), .slice a 2 cc] 33)
  rw [← hP2]
  rw [← hw2] at ka ⊢
  have HX2 := Lib.hid (HX1.out.keeps ka)
  have HT2 := Lib.hid (HT1.out.keep ka)
  have HN2 := Lib.hid (HN1.out.keep ka)
  have K2 := Lib.hid (K1.out.trans ka (fun _ _ h => h))
  clear ka hw2 hP2 x0 x1 c0 c1 c2 c3 c4 HX1 HT1 HN1 K1
  have x0 := HX2.out.cells 0 _ rfl
  have x1 := HX2.out.cells 1 _ rfl
  have y0 := HY2.out.cells 0 _ rfl
  have y2 := HY2.out.cells 2 _ rfl
  have y3 := HY2.out.cells 3 _ rfl
  have y4 := HY2.out.cells 4 _ rfl
  obtain ⟨b0, o0, rfl, kc⟩ := HN2.out.ro.get (k := 0) (by simp) (x := x) rfl
  obtain ⟨b1, o1, ea1, kd⟩ := HN2.out.ro.get (k := 1) (by simp) (x := y) rfl
  cases ea1
  have kc : w2.cell? ⟨b0, o0, none⟩ = some (.int .i64 x) := kc
  obtain ⟨kv, hkv⟩ : ∃ n, n = lvl s := ⟨_, rfl⟩
  have hk4 : kv ≤ 4 := by
    rw [hkv]
    unfold lvl
    repeat' split
    all_goals omega
  have HKV := Lib.hid hkv
  have LC : Hid (Calls Tryd.prog 18 #[.agg #[.int .i64 9, .int .i64 ln, .int .i64 0, .string (ofL s), .slice (some ⟨b0, o0, none⟩) 2 cc]] w2 fun r w'' => r = .returned (.int .i64 (kv : Int)) ∧ Keeps (fun _ => False) w2 w'') := Lib.hid (by
    have h := plevel_any 9 ln 0 s (some ⟨b0, o0, none⟩) 2 cc w2 (fun _ => HS.out)
    rw [show levK 9 s = kv by rw [HKV.out]; rfl] at h
    exact h)
  have y1 := HY2.out.cells 1 _ rfl
  clear hkv
  go_upto_region 21 with fail
  go_wp2_with fail
  refine LC.out.mono ?_
  rintro r w3 ⟨rfl, k3⟩
  have K3 := Lib.hid (K2.out.trans k3 (fun _ _ h => h))
  have HX3 := Lib.hid (HX2.out.keeps k3)
  have HY3 := Lib.hid (HY2.out.keeps k3)
  have HT3 := Lib.hid (HT2.out.keep k3)
  have kc := (k3.cell (cell_ltk kc) (fun h => h)).trans kc
  have kd := (k3.cell (cell_ltk kd) (fun h => h)).trans kd
  clear k3 LC x0 x1 y0 y1 y2 y3 y4 HX2 HY2 HT2 HN2 K2
  have x0 := HX3.out.cells 0 _ rfl
  have x1 := HX3.out.cells 1 _ rfl
  have y3 := HY3.out.cells 3 _ rfl
  have y4 := HY3.out.cells 4 _ rfl
  have hne : ¬ (kv : Int) = 2 := by have h1 := HKV.out; have h2 := H2.out; omega
  have hned : ((kv : Int) == 2) = false := by simpa using hne
  have wk2 : IntKind.i64.wrap ((kv : Int) + 1) = (kv : Int) + 1 := IntWalk.i64_in _ (by omega)
  obtain ⟨S1, hS1⟩ : ∃ S, S = ofL s := ⟨_, rfl⟩
  have z1 : Hid (S1.size = s.length) := Lib.hid (by rw [hS1]; exact ofL_size _)
  have HS1 := Lib.hid hS1
  rw [← hS1] at y3
  obtain ⟨S2, hS2⟩ : ∃ S, S = ofL (parL (decide (lvE e < kv)) (showE e)) := ⟨_, rfl⟩
  have z2 : Hid (S2.size ≤ (showE e).length + 2) := Lib.hid (by rw [hS2, ofL_size]; exact parL_len _ _)
  have HS2 := Lib.hid hS2
  obtain ⟨S3, hS3⟩ : ∃ S, S = ofL (parL (decide (lvE f < (kv + 1))) (showE f)) := ⟨_, rfl⟩
  have z3 : Hid (S3.size ≤ (showE f).length + 2) := Lib.hid (by rw [hS3, ofL_size]; exact parL_len _ _)
  have HS3 := Lib.hid hS3
  have CH : Hid (∀ w', Keeps (fun _ => False) w3 w' → Calls Tryd.prog 31 #[.int .i64 0, .int .i64 (kv : Int), .pointer (some ⟨P2, 0, none⟩), .pointer (some ⟨P1, 0, none⟩)] w' fun r w'' => r = .returned (.string S2) ∧ Keeps (fun _ => False) w3 w'') := Lib.hid (fun w' q => by
    rw [HS2.out]
    exact (side_any Q nd fs _ A' m k c c' HM.out e (by have := HL.out; omega) HC.out 0 kv 2 cc b0 o0 P1 P2 x (by decide) (by omega) w' (HW.out.keep (K3.out.trans q (fun _ _ h => h))) (HT3.out.keep q) HX.out ((q.cell (cell_ltk x0) (fun h => h)).trans x0) ((q.cell (cell_ltk x1) (fun h => h)).trans x1) ((q.cell (cell_ltk y4) (fun h => h)).trans y4) ((q.cell (cell_ltk kc) (fun h => h)).trans kc)).mono fun r w'' ⟨h1, h2⟩ => ⟨h1, q.trans h2 (fun _ _ h => h)⟩)
  have DH : Hid (∀ w', Keeps (fun _ => False) w3 w' → Calls Tryd.prog 31 #[.int .i64 1, .int .i64 ((kv : Int) + 1), .pointer (some ⟨P2, 0, none⟩), .pointer (some ⟨P1, 0, none⟩)] w' fun r w'' => r = .returned (.string S3) ∧ Keeps (fun _ => False) w3 w'') := Lib.hid (fun w' q => by
    rw [HS3.out]
    exact (side_any Q nd fs _ A' m k c c' HM.out f (by have := HL.out; omega) HD.out 1 (kv + 1) 2 cc b0 o0 P1 P2 y (by decide) (by omega) w' (HW.out.keep (K3.out.trans q (fun _ _ h => h))) (HT3.out.keep q) HY.out ((q.cell (cell_ltk x0) (fun h => h)).trans x0) ((q.cell (cell_ltk x1) (fun h => h)).trans x1) ((q.cell (cell_ltk y4) (fun h => h)).trans y4) ((q.cell (cell_ltk kd) (fun h => h)).trans kd)).mono fun r w'' ⟨h1, h2⟩ => ⟨h1, q.trans h2 (fun _ _ h => h)⟩)
  have q0 : ¬ 9223372036854775807 < S2.size + S1.size := by have h1 := HL.out; have h2 := z1.out; have h3 := z2.out; omega
  have q1 : ¬ 9223372036854775807 < S2.size + S1.size + S3.size := by have h1 := HL.out; have h2 := z1.out; have h3 := z2.out; have h4 := z3.out; omega
  have HM2 : Hid (S2 ++ S1 ++ S3 = ofL (showE (.bin s e f))) := Lib.hid (of_list (by
    rw [bap_list, bap_list, HS1.out, HS2.out, HS3.out, ofL_list, ofL_list, ofL_list]
    show _ = parL (decide (lvE e < leftL (lvl s))) (showE e) ++ (s ++ parL (decide (lvE f < lvl s + 1)) (showE f))
    rw [← HKV.out, List.append_assoc]
    rw [show leftL kv = kv from if_neg (by omega)]))
  have SK : Hid (∀ w', Keeps (fun _ => False) w3 w' → (w'.cell? ⟨P2, 3, none⟩ = some (.string S1)) ∧ Keeps (fun _ => False) w3 w') := Lib.hid (fun w' q => ⟨(q.cell (cell_ltk y3) (fun h => h)).trans y3, q⟩)
  clear hS1 hS2 hS3
  go_upto_region 25 with fail
  go_region_held3 (fun w' => (w'.cell? ⟨P2, 3, none⟩ = some (.string S1)) ∧ Keeps (fun _ => False) w3 w') (first | exact SK.out _ (Keeps.refl _ _) | exact SK.out _ (by assumption) | exact SK.out _ ((Keeps.refl _ _).drew) | exact SK.out _ (Keeps.drew (by assumption))) (first | (go_at_call 31; first | (with_reducible refine (CH.out _ (by first | assumption | exact (Keeps.refl _ _).drew | exact Keeps.drew (by assumption) | exact Keeps.refl _ _)).mono ?_; rintro r w4 ⟨rfl, k4⟩) | (with_reducible refine (DH.out _ (by first | assumption | exact (Keeps.refl _ _).drew | exact Keeps.drew (by assumption) | exact Keeps.refl _ _)).mono ?_; rintro r w4 ⟨rfl, k4⟩)))
  all_goals go_wp2_with fail
  all_goals go_ret
  all_goals exact ⟨by (rw [HM2.out]; first | done | rfl), K3.out.trans (by first | assumption | exact Keeps.drew (by assumption)) (fun _ _ h => h)⟩
end Go.Proofs.YtgelggdgbmldiaaDoor
