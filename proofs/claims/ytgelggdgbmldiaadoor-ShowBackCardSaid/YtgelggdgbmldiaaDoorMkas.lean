/-
  Layer 3: the program's statements. Written by an AI agent.
  Layer 3: a builder, what is written to it, and what stays. Written by an AI agent.
-/
import Derived.Shelf.Strings.BuilderCap
import Derived.Shelf.Strings.BuilderK
import Derived.Test.YtgelggdgbmldiaaDoorMkar
namespace Go.Proofs.YtgelggdgbmldiaaDoor
open Go Go.RowKit Go.Shelf
set_option linter.unusedVariables false
set_option linter.unusedSimpArgs false
theorem At.inj {nd : List Nd} {i k n k' n' : Int} {s s' : List UInt8} {l l' : List Int} (h : At nd i k n s l) (h' : At nd i k' n' s' l') : k = k' ∧ n = n' ∧ s = s' ∧ l = l' := by
  obtain ⟨j, ln, e1, e2⟩ := h
  obtain ⟨j', ln', e1', e2'⟩ := h'
  have : j = j' := by omega
  subst this
  rw [e2] at e2'
  have e3 := Option.some.inj e2'
  injection e3 with h1 h2 h3 h4 h5
  exact ⟨h1, h3, h4, h5⟩
/-- A statement without blocks, without its end. -/
def shortS : Stm → List UInt8
  | .lt s r => [108, 101, 116, 32] ++ s ++ [61] ++ showR r
  | .set s r => s ++ [61] ++ showR r
  | .put s a b => s ++ [91] ++ showE a ++ [93, 61] ++ showE b
  | .doo s l => showR (.call s l)
  | .print a => [112, 114, 105, 110, 116, 32] ++ showE a
  | .ret0 => [114, 101, 116, 117, 114, 110]
  | .ret1 a => [114, 101, 116, 117, 114, 110, 32] ++ showE a
  | _ => []
/-- What the program's short tells. -/
def PHC (Q : List UInt8 → Prop) (nd : List Nd) (fs : List Fnc) (A A' : Option Addr) (m k c c' : Nat) (e : Stm) : Prop :=
  ∀ (i : Int) (w : World) (kk nn ln : Int) (nm : List UInt8) (l : List Int) (a : Option Addr) (ll cc : Nat), ShW w → TreeR 0 w A A' nd fs → At nd i kk nn nm l → RepS Q nd e i → RdI w a l → ll = l.length → Calls Tryd.prog 102 #[.agg #[.slice A m c, .slice A' k c'], .agg #[.int .i64 kk, .int .i64 ln, .int .i64 nn, .string (ofL nm), .slice a ll cc]] w fun r w' => r = .returned (.string (ofL (shortS e))) ∧ Keeps (fun _ => False) w w'
set_option maxRecDepth 100000 in
set_option maxHeartbeats 16000000 in
theorem ps_lt (Q : List UInt8 → Prop) (nd : List Nd) (fs : List Fnc) (A A' : Option Addr) (m k c c' : Nat) (hm : m = nd.length) (s : List UInt8) (r : Rt) (hl : s.length ≤ 1000000) (hc0 : PXR Q nd fs A A' m k c c' r) (hl0 : (showR r).length ≤ 1000000) : PHC Q nd fs A A' m k c c' (.lt s r) := by
  have HC0 := Lib.hid hc0
  have HL0 := Lib.hid hl0
  clear hc0 hl0
  intro i w kk nn ln nm l a ll cc hw hT hat hR hro hll
  unfold RepS at hR
  obtain ⟨xa, ha, _, hx0⟩ := hR
  obtain ⟨rfl, rfl, rfl, rfl⟩ := ha.inj hat
  replace hll : ll = 1 := hll
  subst hll
  have HV0 := Lib.hid hx0
  clear hx0
  have HT := Lib.hid hT
  have HW := Lib.hid hw
  have HRO := Lib.hid hro
  clear hT hw ha hat hro hm
  go_enter Tryd.func102, Tryd.ntmps102
  go_upto_region 1 with fail
  obtain ⟨P1, hP1⟩ : ∃ X, X = w.heap.size := ⟨_, rfl⟩
  obtain ⟨w1, hw1⟩ : ∃ w1, w1 = w.alloc (.cells #[.slice A m c, .slice A' k c'] 27) := ⟨_, rfl⟩
  have ka := Keeps.one w (.cells #[.slice A m c, .slice A' k c'] 27)
  have HX1 : Hid (Loc w1 (fun _ => False) P1 [.slice A m c, .slice A' k c']) := Lib.hid (by rw [hw1, hP1]; exact Loc.new (fun h => h) [.slice A m c, .slice A' k c'] 27)
  have hs1 : w1.heap.size = P1 + 1 := by rw [hw1, hP1, World.size_alloc]
  rw [← hP1]
  rw [← hw1] at ka ⊢
  obtain ⟨P2, hP2⟩ : ∃ X, X = w1.heap.size := ⟨_, rfl⟩
  obtain ⟨w2, hw2⟩ : ∃ w2, w2 = w1.alloc (.cells #[.int .i64 10, .int .i64 ln, .int .i64 0, .string (ofL s), .slice a 1 cc] 33) := ⟨_, rfl⟩
  have kb := Keeps.one w1 (.cells #[.int .i64 10, .int .i64 ln, .int .i64 0, .string (ofL s), .slice a 1 cc] 33)
  have HY2 : Hid (Loc w2 (fun _ => False) P2 [.int .i64 10, .int .i64 ln, .int .i64 0, .string (ofL s), .slice a 1 cc]) := Lib.hid (by rw [hw2, hP2]; exact Loc.new (fun h => h) [.int .i64 10, .int .i64 ln, .int .i64 0, .string (ofL s), .slice a 1 cc] 33)
  rw [← hw2] at kb ⊢
  (try rw [← hs1])
  (try rw [← hP2])
  have HX2 := Lib.hid (HX1.out.keeps kb)
  have K2 := Lib.hid (ka.trans kb (fun _ _ h => h))
  have HT2 := Lib.hid (HT.out.keep K2.out)
  have HRO2 := Lib.hid (HRO.out.keep K2.out (fun _ _ _ _ h => h))
  clear ka kb hw1 hw2 hP1 hP2 hs1 HX1 HT HRO
  have x0 := HX2.out.cells 0 _ rfl
  have x1 := HX2.out.cells 1 _ rfl
  have y0 := HY2.out.cells 0 _ rfl
  have y3 := HY2.out.cells 3 _ rfl
  have y4 := HY2.out.cells 4 _ rfl
  obtain ⟨b0, o0, rfl, kc0⟩ := HRO2.out.get (k := 0) (by simp) (x := xa) rfl
  have kc0 : w2.cell? ⟨b0, o0, none⟩ = some (.int .i64 xa) := kc0
  obtain ⟨S1, hS1⟩ : ∃ S, S = ofL s := ⟨_, rfl⟩
  have z1 : S1.size = s.length := by rw [hS1]; exact ofL_size _
  have HS1 := Lib.hid hS1
  rw [← hS1] at y3
  obtain ⟨T0, hT0⟩ : ∃ S, S = ofL (showR r) := ⟨_, rfl⟩
  have zt0 : T0.size ≤ 1000000 := by rw [hT0, ofL_size]; exact HL0.out
  have HS_0 := Lib.hid hT0
  have CH0 : Hid (∀ w', Keeps (fun _ => False) w2 w' → Calls Tryd.prog 20 #[.agg #[.slice A m c, .slice A' k c'], .int .i64 xa] w' fun r w'' => r = .returned (.string T0) ∧ Keeps (fun _ => False) w2 w'') := Lib.hid (fun w' q => by
    rw [HS_0.out]
    exact (HC0.out xa w' (HW.out.keep (K2.out.trans q (fun _ _ h => h))) (HT2.out.keep q) HV0.out).mono fun r w'' ⟨h1, h2⟩ => ⟨h1, q.trans h2 (fun _ _ h => h)⟩)
  have q0 : ¬ 9223372036854775807 < 4 + S1.size := by omega
  have q1 : ¬ 9223372036854775807 < 4 + S1.size + 1 := by omega
  have q2 : ¬ 9223372036854775807 < 4 + S1.size + 1 + T0.size := by omega
  have HM2 : Hid (({ data := #[108, 101, 116, 32] } : ByteArray) ++ S1 ++ { data := #[61] } ++ T0 = ofL (shortS (.lt s r))) := Lib.hid (of_list (by rw [HS_0.out, HS1.out]; simp [bap_list, ofL_list, shortS]; done))
  have SK : Hid (∀ w', Keeps (fun _ => False) w2 w' → (w'.cell? ⟨P1, 0, none⟩ = some (.slice A m c) ∧ w'.cell? ⟨P1, 1, none⟩ = some (.slice A' k c') ∧ w'.cell? ⟨P2, 3, none⟩ = some (.string S1) ∧ w'.cell? ⟨P2, 4, none⟩ = some (.slice (some ⟨b0, o0, none⟩) 1 cc) ∧ w'.cell? ⟨b0, o0, none⟩ = some (.int .i64 xa)) ∧ Keeps (fun _ => False) w2 w') := Lib.hid (fun w' q => ⟨⟨(q.cell (cell_ltk x0) (fun h => h)).trans x0, (q.cell (cell_ltk x1) (fun h => h)).trans x1, (q.cell (cell_ltk y3) (fun h => h)).trans y3, (q.cell (cell_ltk y4) (fun h => h)).trans y4, (q.cell (cell_ltk kc0) (fun h => h)).trans kc0⟩, q⟩)
  clear hT0 zt0 hS1 z1
  go_upto_region 3 with fail
  go_region_held3 (fun w' => (w'.cell? ⟨P1, 0, none⟩ = some (.slice A m c) ∧ w'.cell? ⟨P1, 1, none⟩ = some (.slice A' k c') ∧ w'.cell? ⟨P2, 3, none⟩ = some (.string S1) ∧ w'.cell? ⟨P2, 4, none⟩ = some (.slice (some ⟨b0, o0, none⟩) 1 cc) ∧ w'.cell? ⟨b0, o0, none⟩ = some (.int .i64 xa)) ∧ Keeps (fun _ => False) w2 w') (first | exact SK.out _ (Keeps.refl _ _) | exact SK.out _ (by assumption) | exact SK.out _ ((Keeps.refl _ _).drew) | exact SK.out _ (Keeps.drew (by assumption))) (first | (go_at_call 20; first | (with_reducible refine (CH0.out _ (by first | assumption | exact (Keeps.refl _ _).drew | exact Keeps.drew (by assumption) | exact Keeps.refl _ _)).mono ?_; rintro r w4 ⟨rfl, k4⟩)))
  all_goals go_wp2_with fail
  all_goals go_ret
  all_goals exact ⟨by (rw [HM2.out]; first | done | rfl), K2.out.trans (by first | assumption | exact Keeps.drew (by assumption)) (fun _ _ h => h)⟩
set_option maxRecDepth 100000 in
set_option maxHeartbeats 16000000 in
theorem ps_set (Q : List UInt8 → Prop) (nd : List Nd) (fs : List Fnc) (A A' : Option Addr) (m k c c' : Nat) (hm : m = nd.length) (s : List UInt8) (r : Rt) (hl : s.length ≤ 1000000) (hc0 : PXR Q nd fs A A' m k c c' r) (hl0 : (showR r).length ≤ 1000000) : PHC Q nd fs A A' m k c c' (.set s r) := by
  have HC0 := Lib.hid hc0
  have HL0 := Lib.hid hl0
  clear hc0 hl0
  intro i w kk nn ln nm l a ll cc hw hT hat hR hro hll
  unfold RepS at hR
  obtain ⟨xa, ha, _, hx0⟩ := hR
  obtain ⟨rfl, rfl, rfl, rfl⟩ := ha.inj hat
  replace hll : ll = 1 := hll
  subst hll
  have HV0 := Lib.hid hx0
  clear hx0
  have HT := Lib.hid hT
  have HW := Lib.hid hw
  have HRO := Lib.hid hro
  clear hT hw ha hat hro hm
  go_enter Tryd.func102, Tryd.ntmps102
  go_upto_region 1 with fail
  obtain ⟨P1, hP1⟩ : ∃ X, X = w.heap.size := ⟨_, rfl⟩
  obtain ⟨w1, hw1⟩ : ∃ w1, w1 = w.alloc (.cells #[.slice A m c, .slice A' k c'] 27) := ⟨_, rfl⟩
  have ka := Keeps.one w (.cells #[.slice A m c, .slice A' k c'] 27)
  have HX1 : Hid (Loc w1 (fun _ => False) P1 [.slice A m c, .slice A' k c']) := Lib.hid (by rw [hw1, hP1]; exact Loc.new (fun h => h) [.slice A m c, .slice A' k c'] 27)
  have hs1 : w1.heap.size = P1 + 1 := by rw [hw1, hP1, World.size_alloc]
  rw [← hP1]
  rw [← hw1] at ka ⊢
  obtain ⟨P2, hP2⟩ : ∃ X, X = w1.heap.size := ⟨_, rfl⟩
  obtain ⟨w2, hw2⟩ : ∃ w2, w2 = w1.alloc (.cells #[.int .i64 11, .int .i64 ln, .int .i64 0, .string (ofL s), .slice a 1 cc] 33) := ⟨_, rfl⟩
  have kb := Keeps.one w1 (.cells #[.int .i64 11, .int .i64 ln, .int .i64 0, .string (ofL s), .slice a 1 cc] 33)
  have HY2 : Hid (Loc w2 (fun _ => False) P2 [.int .i64 11, .int .i64 ln, .int .i64 0, .string (ofL s), .slice a 1 cc]) := Lib.hid (by rw [hw2, hP2]; exact Loc.new (fun h => h) [.int .i64 11, .int .i64 ln, .int .i64 0, .string (ofL s), .slice a 1 cc] 33)
  rw [← hw2] at kb ⊢
  (try rw [← hs1])
  (try rw [← hP2])
  have HX2 := Lib.hid (HX1.out.keeps kb)
  have K2 := Lib.hid (ka.trans kb (fun _ _ h => h))
  have HT2 := Lib.hid (HT.out.keep K2.out)
  have HRO2 := Lib.hid (HRO.out.keep K2.out (fun _ _ _ _ h => h))
  clear ka kb hw1 hw2 hP1 hP2 hs1 HX1 HT HRO
  have x0 := HX2.out.cells 0 _ rfl
  have x1 := HX2.out.cells 1 _ rfl
  have y0 := HY2.out.cells 0 _ rfl
  have y3 := HY2.out.cells 3 _ rfl
  have y4 := HY2.out.cells 4 _ rfl
  obtain ⟨b0, o0, rfl, kc0⟩ := HRO2.out.get (k := 0) (by simp) (x := xa) rfl
  have kc0 : w2.cell? ⟨b0, o0, none⟩ = some (.int .i64 xa) := kc0
  obtain ⟨S1, hS1⟩ : ∃ S, S = ofL s := ⟨_, rfl⟩
  have z1 : S1.size = s.length := by rw [hS1]; exact ofL_size _
  have HS1 := Lib.hid hS1
  rw [← hS1] at y3
  obtain ⟨T0, hT0⟩ : ∃ S, S = ofL (showR r) := ⟨_, rfl⟩
  have zt0 : T0.size ≤ 1000000 := by rw [hT0, ofL_size]; exact HL0.out
  have HS_0 := Lib.hid hT0
  have CH0 : Hid (∀ w', Keeps (fun _ => False) w2 w' → Calls Tryd.prog 20 #[.agg #[.slice A m c, .slice A' k c'], .int .i64 xa] w' fun r w'' => r = .returned (.string T0) ∧ Keeps (fun _ => False) w2 w'') := Lib.hid (fun w' q => by
    rw [HS_0.out]
    exact (HC0.out xa w' (HW.out.keep (K2.out.trans q (fun _ _ h => h))) (HT2.out.keep q) HV0.out).mono fun r w'' ⟨h1, h2⟩ => ⟨h1, q.trans h2 (fun _ _ h => h)⟩)
  have q0 : ¬ 9223372036854775807 < S1.size + 1 := by omega
  have q1 : ¬ 9223372036854775807 < S1.size + 1 + T0.size := by omega
  have HM2 : Hid (S1 ++ { data := #[61] } ++ T0 = ofL (shortS (.set s r))) := Lib.hid (of_list (by rw [HS_0.out, HS1.out]; simp [bap_list, ofL_list, shortS]; done))
  have SK : Hid (∀ w', Keeps (fun _ => False) w2 w' → (w'.cell? ⟨P1, 0, none⟩ = some (.slice A m c) ∧ w'.cell? ⟨P1, 1, none⟩ = some (.slice A' k c') ∧ w'.cell? ⟨P2, 3, none⟩ = some (.string S1) ∧ w'.cell? ⟨P2, 4, none⟩ = some (.slice (some ⟨b0, o0, none⟩) 1 cc) ∧ w'.cell? ⟨b0, o0, none⟩ = some (.int .i64 xa)) ∧ Keeps (fun _ => False) w2 w') := Lib.hid (fun w' q => ⟨⟨(q.cell (cell_ltk x0) (fun h => h)).trans x0, (q.cell (cell_ltk x1) (fun h => h)).trans x1, (q.cell (cell_ltk y3) (fun h => h)).trans y3, (q.cell (cell_ltk y4) (fun h => h)).trans y4, (q.cell (cell_ltk kc0) (fun h => h)).trans kc0⟩, q⟩)
  clear hT0 zt0 hS1 z1
  go_upto_region 5 with fail
  go_region_held3 (fun w' => (w'.cell? ⟨P1, 0, none⟩ = some (.slice A m c) ∧ w'.cell? ⟨P1, 1, none⟩ = some (.slice A' k c') ∧ w'.cell? ⟨P2, 3, none⟩ = some (.string S1) ∧ w'.cell? ⟨P2, 4, none⟩ = some (.slice (some ⟨b0, o0, none⟩) 1 cc) ∧ w'.cell? ⟨b0, o0, none⟩ = some (.int .i64 xa)) ∧ Keeps (fun _ => False) w2 w') (first | exact SK.out _ (Keeps.refl _ _) | exact SK.out _ (by assumption) | exact SK.out _ ((Keeps.refl _ _).drew) | exact SK.out _ (Keeps.drew (by assumption))) (first | (go_at_call 20; first | (with_reducible refine (CH0.out _ (by first | assumption | exact (Keeps.refl _ _).drew | exact Keeps.drew (by assumption) | exact Keeps.refl _ _)).mono ?_; rintro r w4 ⟨rfl, k4⟩)))
  all_goals go_wp2_with fail
  all_goals go_ret
  all_goals exact ⟨by (rw [HM2.out]; first | done | rfl), K2.out.trans (by first | assumption | exact Keeps.drew (by assumption)) (fun _ _ h => h)⟩
set_option maxRecDepth 100000 in
set_option maxHeartbeats 16000000 in
theorem ps_doo (Q : List UInt8 → Prop) (nd : List Nd) (fs : List Fnc) (A A' : Option Addr) (m k c c' : Nat) (hm : m = nd.length) (s : List UInt8) (l : List Ex) (hc0 : PXR Q nd fs A A' m k c c' (.call s l)) (hl0 : (showR (.call s l)).length ≤ 1000000) : PHC Q nd fs A A' m k c c' (.doo s l) := by
  have HC0 := Lib.hid hc0
  have HL0 := Lib.hid hl0
  clear hc0 hl0
  intro i w kk nn ln nm l2 a ll cc hw hT hat hR hro hll
  unfold RepS at hR
  obtain ⟨xa, ha, hx0⟩ := hR
  obtain ⟨rfl, rfl, rfl, rfl⟩ := ha.inj hat
  replace hll : ll = 1 := hll
  subst hll
  have HV0 := Lib.hid hx0
  clear hx0
  have HT := Lib.hid hT
  have HW := Lib.hid hw
  have HRO := Lib.hid hro
  clear hT hw ha hat hro hm
  go_enter Tryd.func102, Tryd.ntmps102
  go_upto_region 1 with fail
  obtain ⟨P1, hP1⟩ : ∃ X, X = w.heap.size := ⟨_, rfl⟩
  obtain ⟨w1, hw1⟩ : ∃ w1, w1 = w.alloc (.cells #[.slice A m c, .slice A' k c'] 27) := ⟨_, rfl⟩
  have ka := Keeps.one w (.cells #[.slice A m c, .slice A' k c'] 27)
  have HX1 : Hid (Loc w1 (fun _ => False) P1 [.slice A m c, .slice A' k c']) := Lib.hid (by rw [hw1, hP1]; exact Loc.new (fun h => h) [.slice A m c, .slice A' k c'] 27)
  have hs1 : w1.heap.size = P1 + 1 := by rw [hw1, hP1, World.size_alloc]
  rw [← hP1]
  rw [← hw1] at ka ⊢
  obtain ⟨P2, hP2⟩ : ∃ X, X = w1.heap.size := ⟨_, rfl⟩
  obtain ⟨w2, hw2⟩ : ∃ w2, w2 = w1.alloc (.cells #[.int .i64 13, .int .i64 ln, .int .i64 0, .string (ofL []), .slice a 1 cc] 33) := ⟨_, rfl⟩
  have kb := Keeps.one w1 (.cells #[.int .i64 13, .int .i64 ln, .int .i64 0, .string (ofL []), .slice a 1 cc] 33)
  have HY2 : Hid (Loc w2 (fun _ => False) P2 [.int .i64 13, .int .i64 ln, .int .i64 0, .string (ofL []), .slice a 1 cc]) := Lib.hid (by rw [hw2, hP2]; exact Loc.new (fun h => h) [.int .i64 13, .int .i64 ln, .int .i64 0, .string (ofL []), .slice a 1 cc] 33)
  rw [← hw2] at kb ⊢
  (try rw [← hs1])
  (try rw [← hP2])
  have HX2 := Lib.hid (HX1.out.keeps kb)
  have K2 := Lib.hid (ka.trans kb (fun _ _ h => h))
  have HT2 := Lib.hid (HT.out.keep K2.out)
  have HRO2 := Lib.hid (HRO.out.keep K2.out (fun _ _ _ _ h => h))
  clear ka kb hw1 hw2 hP1 hP2 hs1 HX1 HT HRO
  have x0 := HX2.out.cells 0 _ rfl
  have x1 := HX2.out.cells 1 _ rfl
  have y0 := HY2.out.cells 0 _ rfl
  have y3 := HY2.out.cells 3 _ rfl
  have y4 := HY2.out.cells 4 _ rfl
  obtain ⟨b0, o0, rfl, kc0⟩ := HRO2.out.get (k := 0) (by simp) (x := xa) rfl
  have kc0 : w2.cell? ⟨b0, o0, none⟩ = some (.int .i64 xa) := kc0
  obtain ⟨T0, hT0⟩ : ∃ S, S = ofL (showR (.call s l)) := ⟨_, rfl⟩
  have zt0 : T0.size ≤ 1000000 := by rw [hT0, ofL_size]; exact HL0.out
  have HS_0 := Lib.hid hT0
  have CH0 : Hid (∀ w', Keeps (fun _ => False) w2 w' → Calls Tryd.prog 20 #[.agg #[.slice A m c, .slice A' k c'], .int .i64 xa] w' fun r w'' => r = .returned (.string T0) ∧ Keeps (fun _ => False) w2 w'') := Lib.hid (fun w' q => by
    rw [HS_0.out]
    exact (HC0.out xa w' (HW.out.keep (K2.out.trans q (fun _ _ h => h))) (HT2.out.keep q) HV0.out).mono fun r w'' ⟨h1, h2⟩ => ⟨h1, q.trans h2 (fun _ _ h => h)⟩)
  have HM2 : Hid (T0 = ofL (shortS (.doo s l))) := Lib.hid (of_list (by rw [HS_0.out]; simp [bap_list, ofL_list, shortS]; done))
  have SK : Hid (∀ w', Keeps (fun _ => False) w2 w' → (w'.cell? ⟨P1, 0, none⟩ = some (.slice A m c) ∧ w'.cell? ⟨P1, 1, none⟩ = some (.slice A' k c') ∧ w'.cell? ⟨P2, 4, none⟩ = some (.slice (some ⟨b0, o0, none⟩) 1 cc) ∧ w'.cell? ⟨b0, o0, none⟩ = some (.int .i64 xa)) ∧ Keeps (fun _ => False) w2 w') := Lib.hid (fun w' q => ⟨⟨(q.cell (cell_ltk x0) (fun h => h)).trans x0, (q.cell (cell_ltk x1) (fun h => h)).trans x1, (q.cell (cell_ltk y4) (fun h => h)).trans y4, (q.cell (cell_ltk kc0) (fun h => h)).trans kc0⟩, q⟩)
  clear hT0 zt0
  go_upto_region 9 with fail
  go_region_held3 (fun w' => (w'.cell? ⟨P1, 0, none⟩ = some (.slice A m c) ∧ w'.cell? ⟨P1, 1, none⟩ = some (.slice A' k c') ∧ w'.cell? ⟨P2, 4, none⟩ = some (.slice (some ⟨b0, o0, none⟩) 1 cc) ∧ w'.cell? ⟨b0, o0, none⟩ = some (.int .i64 xa)) ∧ Keeps (fun _ => False) w2 w') (first | exact SK.out _ (Keeps.refl _ _) | exact SK.out _ (by assumption) | exact SK.out _ ((Keeps.refl _ _).drew) | exact SK.out _ (Keeps.drew (by assumption))) (first | (go_at_call 20; first | (with_reducible refine (CH0.out _ (by first | assumption | exact (Keeps.refl _ _).drew | exact Keeps.drew (by assumption) | exact Keeps.refl _ _)).mono ?_; rintro r w4 ⟨rfl, k4⟩)))
  all_goals go_wp2_with fail
  all_goals go_ret
  all_goals exact ⟨by (rw [HM2.out]; first | done | rfl), K2.out.trans (by first | assumption | exact Keeps.drew (by assumption)) (fun _ _ h => h)⟩
set_option maxRecDepth 100000 in
set_option maxHeartbeats 16000000 in
theorem ps_print (Q : List UInt8 → Prop) (nd : List Nd) (fs : List Fnc) (A A' : Option Addr) (m k c c' : Nat) (hm : m = nd.length) (e : Ex) (hc0 : PXC Q nd fs A A' m k c c' e) (hl0 : (showE e).length ≤ 1000000) : PHC Q nd fs A A' m k c c' (.print e) := by
  have HC0 := Lib.hid hc0
  have HL0 := Lib.hid hl0
  clear hc0 hl0
  intro i w kk nn ln nm l a ll cc hw hT hat hR hro hll
  unfold RepS at hR
  obtain ⟨xa, ha, hx0⟩ := hR
  obtain ⟨rfl, rfl, rfl, rfl⟩ := ha.inj hat
  replace hll : ll = 1 := hll
  subst hll
  have HV0 := Lib.hid hx0
  clear hx0
  have HT := Lib.hid hT
  have HW := Lib.hid hw
  have HRO := Lib.hid hro
  clear hT hw ha hat hro hm
  go_enter Tryd.func102, Tryd.ntmps102
  go_upto_region 1 with fail
  obtain ⟨P1, hP1⟩ : ∃ X, X = w.heap.size := ⟨_, rfl⟩
  obtain ⟨w1, hw1⟩ : ∃ w1, w1 = w.alloc (.cells #[.slice A m c, .slice A' k c'] 27) := ⟨_, rfl⟩
  have ka := Keeps.one w (.cells #[.slice A m c, .slice A' k c'] 27)
  have HX1 : Hid (Loc w1 (fun _ => False) P1 [.slice A m c, .slice A' k c']) := Lib.hid (by rw [hw1, hP1]; exact Loc.new (fun h => h) [.slice A m c, .slice A' k c'] 27)
  have hs1 : w1.heap.size = P1 + 1 := by rw [hw1, hP1, World.size_alloc]
  rw [← hP1]
  rw [← hw1] at ka ⊢
  obtain ⟨P2, hP2⟩ : ∃ X, X = w1.heap.size := ⟨_, rfl⟩
  obtain ⟨w2, hw2⟩ : ∃ w2, w2 = w1.alloc (.cells #[.int .i64 14, .int .i64 ln, .int .i64 0, .string (ofL []), .slice a 1 cc] 33) := ⟨_, rfl⟩
  have kb := Keeps.one w1 (.cells #[.int .i64 14, .int .i64 ln, .int .i64 0, .string (ofL []), .slice a 1 cc] 33)
  have HY2 : Hid (Loc w2 (fun _ => False) P2 [.int .i64 14, .int .i64 ln, .int .i64 0, .string (ofL []), .slice a 1 cc]) := Lib.hid (by rw [hw2, hP2]; exact Loc.new (fun h => h) [.int .i64 14, .int .i64 ln, .int .i64 0, .string (ofL []), .slice a 1 cc] 33)
  rw [← hw2] at kb ⊢
  (try rw [← hs1])
  (try rw [← hP2])
  have HX2 := Lib.hid (HX1.out.keeps kb)
  have K2 := Lib.hid (ka.trans kb (fun _ _ h => h))
  have HT2 := Lib.hid (HT.out.keep K2.out)
  have HRO2 := Lib.hid (HRO.out.keep K2.out (fun _ _ _ _ h => h))
  clear ka kb hw1 hw2 hP1 hP2 hs1 HX1 HT HRO
  have x0 := HX2.out.cells 0 _ rfl
  have x1 := HX2.out.cells 1 _ rfl
  have y0 := HY2.out.cells 0 _ rfl
  have y3 := HY2.out.cells 3 _ rfl
  have y4 := HY2.out.cells 4 _ rfl
  obtain ⟨b0, o0, rfl, kc0⟩ := HRO2.out.get (k := 0) (by simp) (x := xa) rfl
  have kc0 : w2.cell? ⟨b0, o0, none⟩ = some (.int .i64 xa) := kc0
  obtain ⟨T0, hT0⟩ : ∃ S, S = ofL (showE e) := ⟨_, rfl⟩
  have zt0 : T0.size ≤ 1000000 := by rw [hT0, ofL_size]; exact HL0.out
  have HS_0 := Lib.hid hT0
  have CH0 : Hid (∀ w', Keeps (fun _ => False) w2 w' → Calls Tryd.prog 20 #[.agg #[.slice A m c, .slice A' k c'], .int .i64 xa] w' fun r w'' => r = .returned (.string T0) ∧ Keeps (fun _ => False) w2 w'') := Lib.hid (fun w' q => by
    rw [HS_0.out]
    exact (HC0.out xa w' (HW.out.keep (K2.out.trans q (fun _ _ h => h))) (HT2.out.keep q) HV0.out).mono fun r w'' ⟨h1, h2⟩ => ⟨h1, q.trans h2 (fun _ _ h => h)⟩)
  have q0 : ¬ 9223372036854775807 < 6 + T0.size := by omega
  have HM2 : Hid (({ data := #[112, 114, 105, 110, 116, 32] } : ByteArray) ++ T0 = ofL (shortS (.print e))) := Lib.hid (of_list (by rw [HS_0.out]; simp [bap_list, ofL_list, shortS]; done))
  have SK : Hid (∀ w', Keeps (fun _ => False) w2 w' → (w'.cell? ⟨P1, 0, none⟩ = some (.slice A m c) ∧ w'.cell? ⟨P1, 1, none⟩ = some (.slice A' k c') ∧ w'.cell? ⟨P2, 4, none⟩ = some (.slice (some ⟨b0, o0, none⟩) 1 cc) ∧ w'.cell? ⟨b0, o0, none⟩ = some (.int .i64 xa)) ∧ Keeps (fun _ => False) w2 w') := Lib.hid (fun w' q => ⟨⟨(q.cell (cell_ltk x0) (fun h => h)).trans x0, (q.cell (cell_ltk x1) (fun h => h)).trans x1, (q.cell (cell_ltk y4) (fun h => h)).trans y4, (q.cell (cell_ltk kc0) (fun h => h)).trans kc0⟩, q⟩)
  clear hT0 zt0
  go_upto_region 11 with fail
  go_region_held3 (fun w' => (w'.cell? ⟨P1, 0, none⟩ = some (.slice A m c) ∧ w'.cell? ⟨P1, 1, none⟩ = some (.slice A' k c') ∧ w'.cell? ⟨P2, 4, none⟩ = some (.slice (some ⟨b0, o0, none⟩) 1 cc) ∧ w'.cell? ⟨b0, o0, none⟩ = some (.int .i64 xa)) ∧ Keeps (fun _ => False) w2 w') (first | exact SK.out _ (Keeps.refl _ _) | exact SK.out _ (by assumption) | exact SK.out _ ((Keeps.refl _ _).drew) | exact SK.out _ (Keeps.drew (by assumption))) (first | (go_at_call 20; first | (with_reducible refine (CH0.out _ (by first | assumption | exact (Keeps.refl _ _).drew | exact Keeps.drew (by assumption) | exact Keeps.refl _ _)).mono ?_; rintro r w4 ⟨rfl, k4⟩)))
  all_goals go_wp2_with fail
  all_goals go_ret
  all_goals exact ⟨by (rw [HM2.out]; first | done | rfl), K2.out.trans (by first | assumption | exact Keeps.drew (by assumption)) (fun _ _ h => h)⟩
set_option maxRecDepth 100000 in
set_option maxHeartbeats 16000000 in
theorem ps_ret1 (Q : List UInt8 → Prop) (nd : List Nd) (fs : List Fnc) (A A' : Option Addr) (m k c c' : Nat) (hm : m = nd.length) (e : Ex) (hc0 : PXC Q nd fs A A' m k c c' e) (hl0 : (showE e).length ≤ 1000000) : PHC Q nd fs A A' m k c c' (.ret1 e) := by
  have HC0 := Lib.hid hc0
  have HL0 := Lib.hid hl0
  clear hc0 hl0
  intro i w kk nn ln nm l a ll cc hw hT hat hR hro hll
  unfold RepS at hR
  obtain ⟨xa, ha, hx0⟩ := hR
  obtain ⟨rfl, rfl, rfl, rfl⟩ := ha.inj hat
  replace hll : ll = 1 := hll
  subst hll
  have HV0 := Lib.hid hx0
  clear hx0
  have HT := Lib.hid hT
  have HW := Lib.hid hw
  have HRO := Lib.hid hro
  clear hT hw ha hat hro hm
  go_enter Tryd.func102, Tryd.ntmps102
  go_upto_region 1 with fail
  obtain ⟨P1, hP1⟩ : ∃ X, X = w.heap.size := ⟨_, rfl⟩
  obtain ⟨w1, hw1⟩ : ∃ w1, w1 = w.alloc (.cells #[.slice A m c, .slice A' k c'] 27) := ⟨_, rfl⟩
  have ka := Keeps.one w (.cells #[.slice A m c, .slice A' k c'] 27)
  have HX1 : Hid (Loc w1 (fun _ => False) P1 [.slice A m c, .slice A' k c']) := Lib.hid (by rw [hw1, hP1]; exact Loc.new (fun h => h) [.slice A m c, .slice A' k c'] 27)
  have hs1 : w1.heap.size = P1 + 1 := by rw [hw1, hP1, World.size_alloc]
  rw [← hP1]
  rw [← hw1] at ka ⊢
  obtain ⟨P2, hP2⟩ : ∃ X, X = w1.heap.size := ⟨_, rfl⟩
  obtain ⟨w2, hw2⟩ : ∃ w2, w2 = w1.alloc (.cells #[.int .i64 17, .int .i64 ln, .int .i64 0, .string (ofL []), .slice a 1 cc] 33) := ⟨_, rfl⟩
  have kb := Keeps.one w1 (.cells #[.int .i64 17, .int .i64 ln, .int .i64 0, .string (ofL []), .slice a 1 cc] 33)
  have HY2 : Hid (Loc w2 (fun _ => False) P2 [.int .i64 17, .int .i64 ln, .int .i64 0, .string (ofL []), .slice a 1 cc]) := Lib.hid (by rw [hw2, hP2]; exact Loc.new (fun h => h) [.int .i64 17, .int .i64 ln, .int .i64 0, .string (ofL []), .slice a 1 cc] 33)
  rw [← hw2] at kb ⊢
  (try rw [← hs1])
  (try rw [← hP2])
  have HX2 := Lib.hid (HX1.out.keeps kb)
  have K2 := Lib.hid (ka.trans kb (fun _ _ h => h))
  have HT2 := Lib.hid (HT.out.keep K2.out)
  have HRO2 := Lib.hid (HRO.out.keep K2.out (fun _ _ _ _ h => h))
  clear ka kb hw1 hw2 hP1 hP2 hs1 HX1 HT HRO
  have x0 := HX2.out.cells 0 _ rfl
  have x1 := HX2.out.cells 1 _ rfl
  have y0 := HY2.out.cells 0 _ rfl
  have y3 := HY2.out.cells 3 _ rfl
  have y4 := HY2.out.cells 4 _ rfl
  obtain ⟨b0, o0, rfl, kc0⟩ := HRO2.out.get (k := 0) (by simp) (x := xa) rfl
  have kc0 : w2.cell? ⟨b0, o0, none⟩ = some (.int .i64 xa) := kc0
  obtain ⟨T0, hT0⟩ : ∃ S, S = ofL (showE e) := ⟨_, rfl⟩
  have zt0 : T0.size ≤ 1000000 := by rw [hT0, ofL_size]; exact HL0.out
  have HS_0 := Lib.hid hT0
  have CH0 : Hid (∀ w', Keeps (fun _ => False) w2 w' → Calls Tryd.prog 20 #[.agg #[.slice A m c, .slice A' k c'], .int .i64 xa] w' fun r w'' => r = .returned (.string T0) ∧ Keeps (fun _ => False) w2 w'') := Lib.hid (fun w' q => by
    rw [HS_0.out]
    exact (HC0.out xa w' (HW.out.keep (K2.out.trans q (fun _ _ h => h))) (HT2.out.keep q) HV0.out).mono fun r w'' ⟨h1, h2⟩ => ⟨h1, q.trans h2 (fun _ _ h => h)⟩)
  have q0 : ¬ 9223372036854775807 < 7 + T0.size := by omega
  have HM2 : Hid (({ data := #[114, 101, 116, 117, 114, 110, 32] } : ByteArray) ++ T0 = ofL (shortS (.ret1 e))) := Lib.hid (of_list (by rw [HS_0.out]; simp [bap_list, ofL_list, shortS]; done))
  have SK : Hid (∀ w', Keeps (fun _ => False) w2 w' → (w'.cell? ⟨P1, 0, none⟩ = some (.slice A m c) ∧ w'.cell? ⟨P1, 1, none⟩ = some (.slice A' k c') ∧ w'.cell? ⟨P2, 4, none⟩ = some (.slice (some ⟨b0, o0, none⟩) 1 cc) ∧ w'.cell? ⟨b0, o0, none⟩ = some (.int .i64 xa)) ∧ Keeps (fun _ => False) w2 w') := Lib.hid (fun w' q => ⟨⟨(q.cell (cell_ltk x0) (fun h => h)).trans x0, (q.cell (cell_ltk x1) (fun h => h)).trans x1, (q.cell (cell_ltk y4) (fun h => h)).trans y4, (q.cell (cell_ltk kc0) (fun h => h)).trans kc0⟩, q⟩)
  clear hT0 zt0
  go_upto_region 14 with fail
  go_region_held3 (fun w' => (w'.cell? ⟨P1, 0, none⟩ = some (.slice A m c) ∧ w'.cell? ⟨P1, 1, none⟩ = some (.slice A' k c') ∧ w'.cell? ⟨P2, 4, none⟩ = some (.slice (some ⟨b0, o0, none⟩) 1 cc) ∧ w'.cell? ⟨b0, o0, none⟩ = some (.int .i64 xa)) ∧ Keeps (fun _ => False) w2 w') (first | exact SK.out _ (Keeps.refl _ _) | exact SK.out _ (by assumption) | exact SK.out _ ((Keeps.refl _ _).drew) | exact SK.out _ (Keeps.drew (by assumption))) (first | (go_at_call 20; first | (with_reducible refine (CH0.out _ (by first | assumption | exact (Keeps.refl _ _).drew | exact Keeps.drew (by assumption) | exact Keeps.refl _ _)).mono ?_; rintro r w4 ⟨rfl, k4⟩)))
  all_goals go_wp2_with fail
  all_goals go_ret
  all_goals exact ⟨by (rw [HM2.out]; first | done | rfl), K2.out.trans (by first | assumption | exact Keeps.drew (by assumption)) (fun _ _ h => h)⟩
set_option maxRecDepth 100000 in
set_option maxHeartbeats 16000000 in
theorem ps_ret0 (Q : List UInt8 → Prop) (nd : List Nd) (fs : List Fnc) (A A' : Option Addr) (m k c c' : Nat) (hm : m = nd.length)  : PHC Q nd fs A A' m k c c' (.ret0) := by
  intro i w kk nn ln nm l a ll cc hw hT hat hR hro hll
  unfold RepS at hR
  have ha := hR
  clear hR
  obtain ⟨rfl, rfl, rfl, rfl⟩ := ha.inj hat
  replace hll : ll = 0 := hll
  subst hll
  have HT := Lib.hid hT
  have HW := Lib.hid hw
  have HRO := Lib.hid hro
  clear hT hw ha hat hro hm
  go_enter Tryd.func102, Tryd.ntmps102
  go_upto_region 1 with fail
  obtain ⟨P1, hP1⟩ : ∃ X, X = w.heap.size := ⟨_, rfl⟩
  obtain ⟨w1, hw1⟩ : ∃ w1, w1 = w.alloc (.cells #[.slice A m c, .slice A' k c'] 27) := ⟨_, rfl⟩
  have ka := Keeps.one w (.cells #[.slice A m c, .slice A' k c'] 27)
  have HX1 : Hid (Loc w1 (fun _ => False) P1 [.slice A m c, .slice A' k c']) := Lib.hid (by rw [hw1, hP1]; exact Loc.new (fun h => h) [.slice A m c, .slice A' k c'] 27)
  have hs1 : w1.heap.size = P1 + 1 := by rw [hw1, hP1, World.size_alloc]
  rw [← hP1]
  rw [← hw1] at ka ⊢
  obtain ⟨P2, hP2⟩ : ∃ X, X = w1.heap.size := ⟨_, rfl⟩
  obtain ⟨w2, hw2⟩ : ∃ w2, w2 = w1.alloc (.cells #[.int .i64 17, .int .i64 ln, .int .i64 0, .string (ofL []), .slice a 0 cc] 33) := ⟨_, rfl⟩
  have kb := Keeps.one w1 (.cells #[.int .i64 17, .int .i64 ln, .int .i64 0, .string (ofL []), .slice a 0 cc] 33)
  have HY2 : Hid (Loc w2 (fun _ => False) P2 [.int .i64 17, .int .i64 ln, .int .i64 0, .string (ofL []), .slice a 0 cc]) := Lib.hid (by rw [hw2, hP2]; exact Loc.new (fun h => h) [.int .i64 17, .int .i64 ln, .int .i64 0, .string (ofL []), .slice a 0 cc] 33)
  rw [← hw2] at kb ⊢
  (try rw [← hs1])
  (try rw [← hP2])
  have HX2 := Lib.hid (HX1.out.keeps kb)
  have K2 := Lib.hid (ka.trans kb (fun _ _ h => h))
  have HT2 := Lib.hid (HT.out.keep K2.out)
  have HRO2 := Lib.hid (HRO.out.keep K2.out (fun _ _ _ _ h => h))
  clear ka kb hw1 hw2 hP1 hP2 hs1 HX1 HT HRO
  have x0 := HX2.out.cells 0 _ rfl
  have x1 := HX2.out.cells 1 _ rfl
  have y0 := HY2.out.cells 0 _ rfl
  have y3 := HY2.out.cells 3 _ rfl
  have y4 := HY2.out.cells 4 _ rfl
  go_wp2_with fail
  go_ret
  exact ⟨rfl, K2.out⟩
set_option maxRecDepth 100000 in
set_option maxHeartbeats 16000000 in
theorem ps_put (Q : List UInt8 → Prop) (nd : List Nd) (fs : List Fnc) (A A' : Option Addr) (m k c c' : Nat) (hm : m = nd.length) (s : List UInt8) (e f : Ex) (hl : s.length ≤ 1000000) (hc0 : PXC Q nd fs A A' m k c c' e) (hl0 : (showE e).length ≤ 1000000) (hc1 : PXC Q nd fs A A' m k c c' f) (hl1 : (showE f).length ≤ 1000000) : PHC Q nd fs A A' m k c c' (.put s e f) := by
  have HC0 := Lib.hid hc0
  have HL0 := Lib.hid hl0
  have HC1 := Lib.hid hc1
  have HL1 := Lib.hid hl1
  clear hc0 hl0
  clear hc1 hl1
  intro i w kk nn ln nm l a ll cc hw hT hat hR hro hll
  unfold RepS at hR
  obtain ⟨xa, xb, ha, _, hx0, hx1⟩ := hR
  obtain ⟨rfl, rfl, rfl, rfl⟩ := ha.inj hat
  replace hll : ll = 2 := hll
  subst hll
  have HV0 := Lib.hid hx0
  clear hx0
  have HV1 := Lib.hid hx1
  clear hx1
  have HT := Lib.hid hT
  have HW := Lib.hid hw
  have HRO := Lib.hid hro
  clear hT hw ha hat hro hm
  go_enter Tryd.func102, Tryd.ntmps102
  go_upto_region 1 with fail
  obtain ⟨P1, hP1⟩ : ∃ X, X = w.heap.size := ⟨_, rfl⟩
  obtain ⟨w1, hw1⟩ : ∃ w1, w1 = w.alloc (.cells #[.slice A m c, .slice A' k c'] 27) := ⟨_, rfl⟩
  have ka := Keeps.one w (.cells #[.slice A m c, .slice A' k c'] 27)
  have HX1 : Hid (Loc w1 (fun _ => False) P1 [.slice A m c, .slice A' k c']) := Lib.hid (by rw [hw1, hP1]; exact Loc.new (fun h => h) [.slice A m c, .slice A' k c'] 27)
  have hs1 : w1.heap.size = P1 + 1 := by rw [hw1, hP1, World.size_alloc]
  rw [← hP1]
  rw [← hw1] at ka ⊢
  obtain ⟨P2, hP2⟩ : ∃ X, X = w1.heap.size := ⟨_, rfl⟩
  obtain ⟨w2, hw2⟩ : ∃ w2, w2 = w1.alloc (.cells #[.int .i64 12, .int .i64 ln, .int .i64 0, .string (ofL s), .slice a 2 cc] 33) := ⟨_, rfl⟩
  have kb := Keeps.one w1 (.cells #[.int .i64 12, .int .i64 ln, .int .i64 0, .string (ofL s), .slice a 2 cc] 33)
  have HY2 : Hid (Loc w2 (fun _ => False) P2 [.int .i64 12, .int .i64 ln, .int .i64 0, .string (ofL s), .slice a 2 cc]) := Lib.hid (by rw [hw2, hP2]; exact Loc.new (fun h => h) [.int .i64 12, .int .i64 ln, .int .i64 0, .string (ofL s), .slice a 2 cc] 33)
  rw [← hw2] at kb ⊢
  (try rw [← hs1])
  (try rw [← hP2])
  have HX2 := Lib.hid (HX1.out.keeps kb)
  have K2 := Lib.hid (ka.trans kb (fun _ _ h => h))
  have HT2 := Lib.hid (HT.out.keep K2.out)
  have HRO2 := Lib.hid (HRO.out.keep K2.out (fun _ _ _ _ h => h))
  clear ka kb hw1 hw2 hP1 hP2 hs1 HX1 HT HRO
  have x0 := HX2.out.cells 0 _ rfl
  have x1 := HX2.out.cells 1 _ rfl
  have y0 := HY2.out.cells 0 _ rfl
  have y3 := HY2.out.cells 3 _ rfl
  have y4 := HY2.out.cells 4 _ rfl
  obtain ⟨b0, o0, rfl, kc0⟩ := HRO2.out.get (k := 0) (by simp) (x := xa) rfl
  have kc0 : w2.cell? ⟨b0, o0, none⟩ = some (.int .i64 xa) := kc0
  obtain ⟨b1, o1, ea1, kc1⟩ := HRO2.out.get (k := 1) (by simp) (x := xb) rfl
  cases ea1
  obtain ⟨S1, hS1⟩ : ∃ S, S = ofL s := ⟨_, rfl⟩
  have z1 : S1.size = s.length := by rw [hS1]; exact ofL_size _
  have HS1 := Lib.hid hS1
  rw [← hS1] at y3
  obtain ⟨T0, hT0⟩ : ∃ S, S = ofL (showE e) := ⟨_, rfl⟩
  have zt0 : T0.size ≤ 1000000 := by rw [hT0, ofL_size]; exact HL0.out
  have HS_0 := Lib.hid hT0
  have CH0 : Hid (∀ w', Keeps (fun _ => False) w2 w' → Calls Tryd.prog 20 #[.agg #[.slice A m c, .slice A' k c'], .int .i64 xa] w' fun r w'' => r = .returned (.string T0) ∧ Keeps (fun _ => False) w2 w'') := Lib.hid (fun w' q => by
    rw [HS_0.out]
    exact (HC0.out xa w' (HW.out.keep (K2.out.trans q (fun _ _ h => h))) (HT2.out.keep q) HV0.out).mono fun r w'' ⟨h1, h2⟩ => ⟨h1, q.trans h2 (fun _ _ h => h)⟩)
  obtain ⟨T1, hT1⟩ : ∃ S, S = ofL (showE f) := ⟨_, rfl⟩
  have zt1 : T1.size ≤ 1000000 := by rw [hT1, ofL_size]; exact HL1.out
  have HS_1 := Lib.hid hT1
  have CH1 : Hid (∀ w', Keeps (fun _ => False) w2 w' → Calls Tryd.prog 20 #[.agg #[.slice A m c, .slice A' k c'], .int .i64 xb] w' fun r w'' => r = .returned (.string T1) ∧ Keeps (fun _ => False) w2 w'') := Lib.hid (fun w' q => by
    rw [HS_1.out]
    exact (HC1.out xb w' (HW.out.keep (K2.out.trans q (fun _ _ h => h))) (HT2.out.keep q) HV1.out).mono fun r w'' ⟨h1, h2⟩ => ⟨h1, q.trans h2 (fun _ _ h => h)⟩)
  have q0 : ¬ 9223372036854775807 < S1.size + 1 := by omega
  have q1 : ¬ 9223372036854775807 < S1.size + 1 + T0.size := by omega
  have q2 : ¬ 9223372036854775807 < S1.size + 1 + T0.size + 2 := by omega
  have q3 : ¬ 9223372036854775807 < S1.size + 1 + T0.size + 2 + T1.size := by omega
  have HM2 : Hid (S1 ++ { data := #[91] } ++ T0 ++ { data := #[93, 61] } ++ T1 = ofL (shortS (.put s e f))) := Lib.hid (of_list (by rw [HS_0.out, HS_1.out, HS1.out]; simp [bap_list, ofL_list, shortS]; done))
  have SK : Hid (∀ w', Keeps (fun _ => False) w2 w' → (w'.cell? ⟨P1, 0, none⟩ = some (.slice A m c) ∧ w'.cell? ⟨P1, 1, none⟩ = some (.slice A' k c') ∧ w'.cell? ⟨P2, 3, none⟩ = some (.string S1) ∧ w'.cell? ⟨P2, 4, none⟩ = some (.slice (some ⟨b0, o0, none⟩) 2 cc) ∧ w'.cell? ⟨b0, o0, none⟩ = some (.int .i64 xa) ∧ w'.cell? ⟨b0, (o0 + 1), none⟩ = some (.int .i64 xb)) ∧ Keeps (fun _ => False) w2 w') := Lib.hid (fun w' q => ⟨⟨(q.cell (cell_ltk x0) (fun h => h)).trans x0, (q.cell (cell_ltk x1) (fun h => h)).trans x1, (q.cell (cell_ltk y3) (fun h => h)).trans y3, (q.cell (cell_ltk y4) (fun h => h)).trans y4, (q.cell (cell_ltk kc0) (fun h => h)).trans kc0, (q.cell (cell_ltk kc1) (fun h => h)).trans kc1⟩, q⟩)
  clear hT0 zt0 hT1 zt1 hS1 z1
  go_upto_region 7 with fail
  go_region_held3 (fun w' => (w'.cell? ⟨P1, 0, none⟩ = some (.slice A m c) ∧ w'.cell? ⟨P1, 1, none⟩ = some (.slice A' k c') ∧ w'.cell? ⟨P2, 3, none⟩ = some (.string S1) ∧ w'.cell? ⟨P2, 4, none⟩ = some (.slice (some ⟨b0, o0, none⟩) 2 cc) ∧ w'.cell? ⟨b0, o0, none⟩ = some (.int .i64 xa) ∧ w'.cell? ⟨b0, (o0 + 1), none⟩ = some (.int .i64 xb)) ∧ Keeps (fun _ => False) w2 w') (first | exact SK.out _ (Keeps.refl _ _) | exact SK.out _ (by assumption) | exact SK.out _ ((Keeps.refl _ _).drew) | exact SK.out _ (Keeps.drew (by assumption))) (first | (go_at_call 20; first | (with_reducible refine (CH0.out _ (by first | assumption | exact (Keeps.refl _ _).drew | exact Keeps.drew (by assumption) | exact Keeps.refl _ _)).mono ?_; rintro r w4 ⟨rfl, k4⟩) | (with_reducible refine (CH1.out _ (by first | assumption | exact (Keeps.refl _ _).drew | exact Keeps.drew (by assumption) | exact Keeps.refl _ _)).mono ?_; rintro r w4 ⟨rfl, k4⟩)))
  all_goals go_wp2_with fail
  all_goals go_ret
  all_goals exact ⟨by (rw [HM2.out]; first | done | rfl), K2.out.trans (by first | assumption | exact Keeps.drew (by assumption)) (fun _ _ h => h)⟩
end Go.Proofs.YtgelggdgbmldiaaDoor

namespace Go.Proofs.YtgelggdgbmldiaaDoor
open Go Go.RowKit Go.Shelf
set_option linter.unusedVariables false
set_option linter.unusedSimpArgs false
theorem laysWS : Lays.n166 Tryd.prog laysJoin_ren := { laysJoin with }
/-- What a builder holds. -/
def BW (B b : Nat) (t : List UInt8) (w : World) : Prop := B ≤ w.heap.size ∧ Lib.IsBuilderF 73 5 B b (Lib.byteCells t) w
/-- What a call that writes to a builder leaves as it was. -/
structure FrB (B b : Nat) (w w' : World) : Prop where
  below : Below B w w'
  others : Lib.OthersKept 5 (some b) w w'
theorem FrB.refl (B b : Nat) (w : World) : FrB B b w w := ⟨Below.refl _ _, Lib.OthersKept.refl _ _ _⟩
theorem FrB.trans {B b : Nat} {w w1 w2 : World} (h : FrB B b w w1) (k : FrB B b w1 w2) : FrB B b w w2 :=
  ⟨⟨k.below.os.trans h.below.os, k.below.tape.trans h.below.tape, k.below.output.trans h.below.output, Nat.le_trans h.below.size k.below.size, fun q hq => (k.below.block q hq).trans (h.below.block q hq)⟩, h.others.trans k.others⟩
theorem FrB.ofKeeps {B b : Nat} {w w' : World} (k : Keeps (fun _ => False) w w') (hB : B ≤ w.heap.size) : FrB B b w w' :=
  ⟨⟨k.os, k.tape, k.output, k.size, fun q hq => k.block q (by omega) (fun h => h)⟩, fun q o ho _ _ => by
    rw [k.block q (by
      rcases Nat.lt_or_ge q w.heap.size with h | h
      · exact h
      · rw [Array.getElem?_eq_none h] at ho
        cases ho) (fun h => h)]
    exact ho⟩
/-- A block of one's own that is no text. -/
structure LocH (w : World) (P : Nat) (vs : List Value) (ty : TypeId) : Prop where
  at_ : w.heap[P]? = some (.cells vs.toArray ty (0, 0))
theorem LocH.keep {B b : Nat} {w w' : World} {P : Nat} {vs : List Value} {ty : TypeId} (h : LocH w P vs ty) (k : FrB B b w w') (hP : P ≠ b) (hty : ty ≠ 5) : LocH w' P vs ty :=
  ⟨k.others P _ h.at_ (fun e => hP (Option.some.inj e)) (fun c fz e => by injection e with _ e2 _; exact hty e2)⟩
theorem LocH.new (w : World) (vs : List Value) (ty : TypeId) : LocH (w.alloc (.cells vs.toArray ty)) w.heap.size vs ty := ⟨heap_alloc_new w _⟩
theorem LocH.cell {w : World} {P : Nat} {vs : List Value} {ty : TypeId} (h : LocH w P vs ty) (k : Nat) (u : Value) (hu : vs[k]? = some u) : w.cell? ⟨P, k, none⟩ = some u := by
  simp [World.cell?, h.at_, hu]
/-- A text more. -/
theorem ws_any (B b : Nat) (t : List UInt8) (s : ByteArray) (w : World) (h : BW B b t w) (hl : t.length + s.size ≤ 100000000) :
    Calls Tryd.prog 36 #[.pointer (some ⟨b, 0, none⟩), .string s] w fun e w' => e = .returned (.tuple #[.int .i64 s.size, .nilIface]) ∧ BW B b (t ++ s.data.toList) w' ∧ FrB B b w w' := by
  refine (Any.Builder_WriteString_kc laysWS extraJoin B b (Lib.byteCells t) s w h.2 (by rw [Lib.byteCells_length]; omega) h.1).mono fun e w' ⟨he, ⟨hb, hbe, ho⟩, _⟩ => ⟨he, ⟨Nat.le_trans h.1 hbe.size, ?_⟩, hbe, ho⟩
  rw [Lib.byteCells_append, ← Lib.strCells_eq]
  exact .inr hb
end Go.Proofs.YtgelggdgbmldiaaDoor
