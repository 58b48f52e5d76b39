/-
  Layer 3: the document's text of an expression. Written by an AI agent.
-/
import Derived.Lib.Bytealg
import Derived.Test.YtgelggdgbmldiaaDoorChecked
import Derived.Laws.OwnMore
import Derived.Laws.AppendOwnNone
import Derived.OwnWalk
import Derived.Lib.AppendZerosOnto
import Derived.Below
import Derived.Stop.Walk2
import Derived.WalkKit
import Derived.WalkLawsBesides
import Derived.WalkSpells
import Derived.Outline
import Derived.BigQuiet
import Derived.Deep.CutBlock
import Derived.Deep.CutRange
import Derived.Deep.DeepCutAuto
import Derived.Deep.RegionHeld3
import Derived.Deep.RegionLaw
import Derived.Deep.RegionWith
import Derived.StillTailTactics
import Derived.RegionTactic
import Derived.Laws.StructEq
import Derived.Lib.Hide
import Derived.Shelf.Abstract
import Derived.Shelf.Lay
import Derived.Ground.NamesProg
import Derived.Shelf.Strings.Prefix
import Derived.Shelf.Small.Strs
import Derived.Shelf.Strings.Count
import Derived.Shelf.Strconv.ErrVarParseInt
import Derived.WalkMore
import Derived.Scope
import Derived.Shelf.Slices.Turned
import Derived.Lib.SlicesS
import Derived.Deep.RegionHeld
import Derived.Deep.LoopGhost
import Derived.Deep.Light
import Derived.Shelf.Strconv.Itoa3
import Derived.Lib.LaidTab
import Derived.Lib.ItoaLen
import Derived.Test.YtgelggdgbmldiaaDoorMcaa
import Derived.Test.YtgelggdgbmldiaaDoorMcab
import Derived.Test.YtgelggdgbmldiaaDoorMcac
import Derived.Test.YtgelggdgbmldiaaDoorMcad
import Derived.Test.YtgelggdgbmldiaaDoorMcae
import Derived.Test.YtgelggdgbmldiaaDoorMcaf
import Derived.Test.YtgelggdgbmldiaaDoorMcag
import Derived.Test.YtgelggdgbmldiaaDoorMcah
import Derived.Test.YtgelggdgbmldiaaDoorMcai
import Derived.Test.YtgelggdgbmldiaaDoorMeaa
import Derived.Test.YtgelggdgbmldiaaDoorMeab
import Derived.Test.YtgelggdgbmldiaaDoorMeac
import Derived.Test.YtgelggdgbmldiaaDoorMead
namespace Go.Proofs.YtgelggdgbmldiaaDoor
open Go Go.RowKit Go.Shelf
set_option linter.unusedVariables false
set_option linter.unusedSimpArgs false
/-- What the document's block and statement tell. -/
def RKC (Q : List UInt8 → Prop) (nd : List Nd) (fs : List Fnc) (A A' : Option Addr) (m k c c' : Nat) (e : Bl) : Prop :=
  ∀ (i : Int) (w : World), ShW w → TreeR 0 w A A' nd fs → (∃ ys, At nd i 18 0 [] ys ∧ RepB Q nd e ys) → Calls Tryd.prog 41 #[.agg #[.slice A m c, .slice A' k c'], .int .i64 i] w fun r w' => r = .returned (.string (ofL (showK e))) ∧ Keeps (fun _ => False) w w'
def RSC (Q : List UInt8 → Prop) (nd : List Nd) (fs : List Fnc) (A A' : Option Addr) (m k c c' : Nat) (e : Stm) : Prop :=
  ∀ (i : Int) (w : World), ShW w → TreeR 0 w A A' nd fs → RepS Q nd e i → Calls Tryd.prog 69 #[.agg #[.slice A m c, .slice A' k c'], .int .i64 i] w fun r w' => r = .returned (.string (ofL (showS e))) ∧ Keeps (fun _ => False) w w'
set_option maxRecDepth 100000 in
set_option maxHeartbeats 16000000 in
theorem rs_lt (Q : List UInt8 → Prop) (nd : List Nd) (fs : List Fnc) (A A' : Option Addr) (m k c c' : Nat) (hm : m = nd.length) (s : List UInt8) (r : Rt) (hl : s.length ≤ 1000000) (hc0 : RXR Q nd fs A A' m k c c' r) (hl0 : (showR r).length ≤ 1000000) : RSC Q nd fs A A' m k c c' (.lt s r) := by
  have HC0 := Lib.hid hc0
  have HL0 := Lib.hid hl0
  clear hc0 hl0
  intro i w hw hT hR
  unfold RepS at hR
  obtain ⟨xa, ha, _, hx0⟩ := hR
  obtain ⟨j, b, off, ln, a, cc, rfl, hj, rfl, hn⟩ := hT.node ha
  rw [← hm] at hj
  have hjI : (j : Int) < (m : Int) := by omega
  have hj0 : (0 : Int) ≤ (j : Int) := by omega
  have HV0 := Lib.hid hx0
  clear hx0
  have HT := Lib.hid hT
  have HW := Lib.hid hw
  have HN := Lib.hid hn
  have HM := Lib.hid hm
  clear hT hw ha hj hm
  go_enter Tryd.func69, Tryd.ntmps69
  go_upto_region 1 with fail
  have ka := Keeps.one w (.cells #[.slice (some ⟨b, off, none⟩) m c, .slice A' k c'] 27)
  obtain ⟨P1, hP1⟩ : ∃ X, X = w.heap.size := ⟨_, rfl⟩
  obtain ⟨w1, hw1⟩ : ∃ w1, w1 = w.alloc (.cells #[.slice (some ⟨b, off, none⟩) m c, .slice A' k c'] 27) := ⟨_, rfl⟩
  have HX1 : Hid (Loc w1 (fun _ => False) P1 [.slice (some ⟨b, off, none⟩) m c, .slice A' k c']) := Lib.hid (by rw [hw1, hP1]; exact Loc.new (fun h => h) [.slice (some ⟨b, off, none⟩) m c, .slice A' k c'] 27)
  have HN1 := Lib.hid (HN.out.keep (hw1 ▸ ka))
  rw [← hP1]
  rw [← hw1] at ka ⊢
  have K1 := Lib.hid ka
  have HT1 := Lib.hid (HT.out.keep ka)
  clear ka hw1 hP1 HT HN
  have x0 := HX1.out.cells 0 _ rfl
  have x1 := HX1.out.cells 1 _ rfl
  have c0 := HN1.out.c0
  have c1 := HN1.out.c1
  have c2 := HN1.out.c2
  have c3 := HN1.out.c3
  have c4 : w1.cell? ⟨b, off + j * 5 + 4, none⟩ = some (.slice a 1 cc) := HN1.out.c4
  go_upto_region 2 with fail
  have ka := Keeps.one w1 (.cells #[.int .i64 10, .int .i64 ln, .int .i64 0, .string (ofL s), .slice a 1 cc] 33)
  obtain ⟨P2, hP2⟩ : ∃ X, X = w1.heap.size := ⟨_, rfl⟩
  obtain ⟨w2, hw2⟩ : ∃ w2, w2 = w1.alloc (.cells #[.int .i64 10, .int .i64 ln, .int .i64 0, .string (ofL s), .slice a 1 cc] 33) := ⟨_, rfl⟩
  have HY2 : Hid (Loc w2 (fun _ => False) P2 [.int .i64 10, .int .i64 ln, .int .i64 0, .string (ofL s), .slice a 1 cc]) := Lib.hid (by rw [hw2, hP2]; exact Loc.new (fun h => h) [.int .i64 10, .int .i64 ln, .int .i64 0, .string (ofL s), .slice a 1 cc] 33)
  rw [← hP2]
  rw [← hw2] at ka ⊢
  have HX2 := Lib.hid (HX1.out.keeps ka)
  have HT2 := Lib.hid (HT1.out.keep ka)
  have HN2 := Lib.hid (HN1.out.keep ka)
  have K2 := Lib.hid (K1.out.trans ka (fun _ _ h => h))
  clear ka hw2 hP2 x0 x1 c0 c1 c2 c3 c4 HX1 HT1 HN1 K1
  have x0 := HX2.out.cells 0 _ rfl
  have x1 := HX2.out.cells 1 _ rfl
  have y0 := HY2.out.cells 0 _ rfl
  have y2 := HY2.out.cells 2 _ rfl
  have y3 := HY2.out.cells 3 _ rfl
  have y4 := HY2.out.cells 4 _ rfl
  obtain ⟨b0, o0, rfl, kc0⟩ := HN2.out.ro.get (k := 0) (by simp) (x := xa) rfl
  have kc0 : w2.cell? ⟨b0, o0, none⟩ = some (.int .i64 xa) := kc0
  obtain ⟨S1, hS1⟩ : ∃ S, S = ofL s := ⟨_, rfl⟩
  have z1 : S1.size = s.length := by rw [hS1]; exact ofL_size _
  have HS1 := Lib.hid hS1
  rw [← hS1] at y3
  obtain ⟨T0, hT0⟩ : ∃ S, S = ofL (showR r) := ⟨_, rfl⟩
  have zt0 : T0.size ≤ 1000000 := by rw [hT0, ofL_size]; exact HL0.out
  have HS_0 := Lib.hid hT0
  have CH0 : Hid (∀ w', Keeps (fun _ => False) w2 w' → Calls Tryd.prog 21 #[.agg #[.slice (some ⟨b, off, none⟩) m c, .slice A' k c'], .int .i64 xa] w' fun r w'' => r = .returned (.string T0) ∧ Keeps (fun _ => False) w2 w'') := Lib.hid (fun w' q => by
    rw [HS_0.out]
    exact (HC0.out xa w' (HW.out.keep (K2.out.trans q (fun _ _ h => h))) (HT2.out.keep q) HV0.out).mono fun r w'' ⟨h1, h2⟩ => ⟨h1, q.trans h2 (fun _ _ h => h)⟩)
  have q0 : ¬ 9223372036854775807 < 4 + S1.size := by omega
  have q1 : ¬ 9223372036854775807 < 4 + S1.size + 1 := by omega
  have q2 : ¬ 9223372036854775807 < 4 + S1.size + 1 + T0.size := by omega
  have q3 : ¬ 9223372036854775807 < 4 + S1.size + 1 + T0.size + 2 := by omega
  have HM2 : Hid (({ data := #[108, 101, 116, 32] } : ByteArray) ++ S1 ++ { data := #[61] } ++ T0 ++ { data := #[59, 10] } = ofL (showS (.lt s r))) := Lib.hid (of_list (by rw [HS_0.out, HS1.out]; unfold showS; simp [bap_list, ofL_list, showK]; done))
  have SK : Hid (∀ w', Keeps (fun _ => False) w2 w' → (w'.cell? ⟨P1, 0, none⟩ = some ((.slice (some ⟨b, off, none⟩) m c)) ∧ w'.cell? ⟨P1, 1, none⟩ = some ((.slice A' k c')) ∧ w'.cell? ⟨P2, 3, none⟩ = some (.string S1) ∧ w'.cell? ⟨P2, 4, none⟩ = some (.slice (some ⟨b0, o0, none⟩) 1 cc) ∧ w'.cell? ⟨b0, o0, none⟩ = some (.int .i64 xa)) ∧ Keeps (fun _ => False) w2 w') := Lib.hid (fun w' q => ⟨⟨(q.cell (cell_ltk x0) (fun h => h)).trans x0, (q.cell (cell_ltk x1) (fun h => h)).trans x1, (q.cell (cell_ltk y3) (fun h => h)).trans y3, (q.cell (cell_ltk y4) (fun h => h)).trans y4, (q.cell (cell_ltk kc0) (fun h => h)).trans kc0⟩, q⟩)
  clear hT0 zt0 hS1 z1
  go_upto_region 4 with fail
  go_region_held3 (fun w' => (w'.cell? ⟨P1, 0, none⟩ = some ((.slice (some ⟨b, off, none⟩) m c)) ∧ w'.cell? ⟨P1, 1, none⟩ = some ((.slice A' k c')) ∧ w'.cell? ⟨P2, 3, none⟩ = some (.string S1) ∧ w'.cell? ⟨P2, 4, none⟩ = some (.slice (some ⟨b0, o0, none⟩) 1 cc) ∧ w'.cell? ⟨b0, o0, none⟩ = some (.int .i64 xa)) ∧ Keeps (fun _ => False) w2 w') (first | exact SK.out _ (Keeps.refl _ _) | exact SK.out _ (by assumption) | exact SK.out _ ((Keeps.refl _ _).drew) | exact SK.out _ (Keeps.drew (by assumption))) (first | (go_at_call 21; first | (with_reducible refine (CH0.out _ (by first | assumption | exact (Keeps.refl _ _).drew | exact Keeps.drew (by assumption) | exact Keeps.refl _ _)).mono ?_; rintro r w4 ⟨rfl, k4⟩)))
  all_goals go_wp2_with fail
  all_goals go_ret
  all_goals exact ⟨by (rw [HM2.out]; first | done | rfl), K2.out.trans (by first | assumption | exact Keeps.drew (by assumption)) (fun _ _ h => h)⟩
set_option maxRecDepth 100000 in
set_option maxHeartbeats 16000000 in
theorem rs_set (Q : List UInt8 → Prop) (nd : List Nd) (fs : List Fnc) (A A' : Option Addr) (m k c c' : Nat) (hm : m = nd.length) (s : List UInt8) (r : Rt) (hl : s.length ≤ 1000000) (hc0 : RXR Q nd fs A A' m k c c' r) (hl0 : (showR r).length ≤ 1000000) : RSC Q nd fs A A' m k c c' (.set s r) := by
  have HC0 := Lib.hid hc0
  have HL0 := Lib.hid hl0
  clear hc0 hl0
  intro i w hw hT hR
  unfold RepS at hR
  obtain ⟨xa, ha, _, hx0⟩ := hR
  obtain ⟨j, b, off, ln, a, cc, rfl, hj, rfl, hn⟩ := hT.node ha
  rw [← hm] at hj
  have hjI : (j : Int) < (m : Int) := by omega
  have hj0 : (0 : Int) ≤ (j : Int) := by omega
  have HV0 := Lib.hid hx0
  clear hx0
  have HT := Lib.hid hT
  have HW := Lib.hid hw
  have HN := Lib.hid hn
  have HM := Lib.hid hm
  clear hT hw ha hj hm
  go_enter Tryd.func69, Tryd.ntmps69
  go_upto_region 1 with fail
  have ka := Keeps.one w (.cells #[.slice (some ⟨b, off, none⟩) m c, .slice A' k c'] 27)
  obtain ⟨P1, hP1⟩ : ∃ X, X = w.heap.size := ⟨_, rfl⟩
  obtain ⟨w1, hw1⟩ : ∃ w1, w1 = w.alloc (.cells #[.slice (some ⟨b, off, none⟩) m c, .slice A' k c'] 27) := ⟨_, rfl⟩
  have HX1 : Hid (Loc w1 (fun _ => False) P1 [.slice (some ⟨b, off, none⟩) m c, .slice A' k c']) := Lib.hid (by rw [hw1, hP1]; exact Loc.new (fun h => h) [.slice (some ⟨b, off, none⟩) m c, .slice A' k c'] 27)
  have HN1 := Lib.hid (HN.out.keep (hw1 ▸ ka))
  rw [← hP1]
  rw [← hw1] at ka ⊢
  have K1 := Lib.hid ka
  have HT1 := Lib.hid (HT.out.keep ka)
  clear ka hw1 hP1 HT HN
  have x0 := HX1.out.cells 0 _ rfl
  have x1 := HX1.out.cells 1 _ rfl
  have c0 := HN1.out.c0
  have c1 := HN1.out.c1
  have c2 := HN1.out.c2
  have c3 := HN1.out.c3
  have c4 : w1.cell? ⟨b, off + j * 5 + 4, none⟩ = some (.slice a 1 cc) := HN1.out.c4
  go_upto_region 2 with fail
  have ka := Keeps.one w1 (.cells #[.int .i64 11, .int .i64 ln, .int .i64 0, .string (ofL s), .slice a 1 cc] 33)
  obtain ⟨P2, hP2⟩ : ∃ X, X = w1.heap.size := ⟨_, rfl⟩
  obtain ⟨w2, hw2⟩ : ∃ w2, w2 = w1.alloc (.cells #[.int .i64 11, .int .i64 ln, .int .i64 0, .string (ofL s), .slice a 1 cc] 33) := ⟨_, rfl⟩
  have HY2 : Hid (Loc w2 (fun _ => False) P2 [.int .i64 11, .int .i64 ln, .int .i64 0, .string (ofL s), .slice a 1 cc]) := Lib.hid (by rw [hw2, hP2]; exact Loc.new (fun h => h) [.int .i64 11, .int .i64 ln, .int .i64 0, .string (ofL s), .slice a 1 cc] 33)
  rw [← hP2]
  rw [← hw2] at ka ⊢
  have HX2 := Lib.hid (HX1.out.keeps ka)
  have HT2 := Lib.hid (HT1.out.keep ka)
  have HN2 := Lib.hid (HN1.out.keep ka)
  have K2 := Lib.hid (K1.out.trans ka (fun _ _ h => h))
  clear ka hw2 hP2 x0 x1 c0 c1 c2 c3 c4 HX1 HT1 HN1 K1
  have x0 := HX2.out.cells 0 _ rfl
  have x1 := HX2.out.cells 1 _ rfl
  have y0 := HY2.out.cells 0 _ rfl
  have y2 := HY2.out.cells 2 _ rfl
  have y3 := HY2.out.cells 3 _ rfl
  have y4 := HY2.out.cells 4 _ rfl
  obtain ⟨b0, o0, rfl, kc0⟩ := HN2.out.ro.get (k := 0) (by simp) (x := xa) rfl
  have kc0 : w2.cell? ⟨b0, o0, none⟩ = some (.int .i64 xa) := kc0
  obtain ⟨S1, hS1⟩ : ∃ S, S = ofL s := ⟨_, rfl⟩
  have z1 : S1.size = s.length := by rw [hS1]; exact ofL_size _
  have HS1 := Lib.hid hS1
  rw [← hS1] at y3
  obtain ⟨T0, hT0⟩ : ∃ S, S = ofL (showR r) := ⟨_, rfl⟩
  have zt0 : T0.size ≤ 1000000 := by rw [hT0, ofL_size]; exact HL0.out
  have HS_0 := Lib.hid hT0
  have CH0 : Hid (∀ w', Keeps (fun _ => False) w2 w' → Calls Tryd.prog 21 #[.agg #[.slice (some ⟨b, off, none⟩) m c, .slice A' k c'], .int .i64 xa] w' fun r w'' => r = .returned (.string T0) ∧ Keeps (fun _ => False) w2 w'') := Lib.hid (fun w' q => by
    rw [HS_0.out]
    exact (HC0.out xa w' (HW.out.keep (K2.out.trans q (fun _ _ h => h))) (HT2.out.keep q) HV0.out).mono fun r w'' ⟨h1, h2⟩ => ⟨h1, q.trans h2 (fun _ _ h => h)⟩)
  have q0 : ¬ 9223372036854775807 < S1.size + 1 := by omega
  have q1 : ¬ 9223372036854775807 < S1.size + 1 + T0.size := by omega
  have q2 : ¬ 9223372036854775807 < S1.size + 1 + T0.size + 2 := by omega
  have HM2 : Hid (S1 ++ { data := #[61] } ++ T0 ++ { data := #[59, 10] } = ofL (showS (.set s r))) := Lib.hid (of_list (by rw [HS_0.out, HS1.out]; unfold showS; simp [bap_list, ofL_list, showK]; done))
  have SK : Hid (∀ w', Keeps (fun _ => False) w2 w' → (w'.cell? ⟨P1, 0, none⟩ = some ((.slice (some ⟨b, off, none⟩) m c)) ∧ w'.cell? ⟨P1, 1, none⟩ = some ((.slice A' k c')) ∧ w'.cell? ⟨P2, 3, none⟩ = some (.string S1) ∧ w'.cell? ⟨P2, 4, none⟩ = some (.slice (some ⟨b0, o0, none⟩) 1 cc) ∧ w'.cell? ⟨b0, o0, none⟩ = some (.int .i64 xa)) ∧ Keeps (fun _ => False) w2 w') := Lib.hid (fun w' q => ⟨⟨(q.cell (cell_ltk x0) (fun h => h)).trans x0, (q.cell (cell_ltk x1) (fun h => h)).trans x1, (q.cell (cell_ltk y3) (fun h => h)).trans y3, (q.cell (cell_ltk y4) (fun h => h)).trans y4, (q.cell (cell_ltk kc0) (fun h => h)).trans kc0⟩, q⟩)
  clear hT0 zt0 hS1 z1
  go_upto_region 6 with fail
  go_region_held3 (fun w' => (w'.cell? ⟨P1, 0, none⟩ = some ((.slice (some ⟨b, off, none⟩) m c)) ∧ w'.cell? ⟨P1, 1, none⟩ = some ((.slice A' k c')) ∧ w'.cell? ⟨P2, 3, none⟩ = some (.string S1) ∧ w'.cell? ⟨P2, 4, none⟩ = some (.slice (some ⟨b0, o0, none⟩) 1 cc) ∧ w'.cell? ⟨b0, o0, none⟩ = some (.int .i64 xa)) ∧ Keeps (fun _ => False) w2 w') (first | exact SK.out _ (Keeps.refl _ _) | exact SK.out _ (by assumption) | exact SK.out _ ((Keeps.refl _ _).drew) | exact SK.out _ (Keeps.drew (by assumption))) (first | (go_at_call 21; first | (with_reducible refine (CH0.out _ (by first | assumption | exact (Keeps.refl _ _).drew | exact Keeps.drew (by assumption) | exact Keeps.refl _ _)).mono ?_; rintro r w4 ⟨rfl, k4⟩)))
  all_goals go_wp2_with fail
  all_goals go_ret
  all_goals exact ⟨by (rw [HM2.out]; first | done | rfl), K2.out.trans (by first | assumption | exact Keeps.drew (by assumption)) (fun _ _ h => h)⟩
set_option maxRecDepth 100000 in
set_option maxHeartbeats 16000000 in
theorem rs_doo (Q : List UInt8 → Prop) (nd : List Nd) (fs : List Fnc) (A A' : Option Addr) (m k c c' : Nat) (hm : m = nd.length) (s : List UInt8) (l : List Ex) (hc0 : RXR Q nd fs A A' m k c c' (.call s l)) (hl0 : (showR (.call s l)).length ≤ 1000000) : RSC Q nd fs A A' m k c c' (.doo s l) := by
  have HC0 := Lib.hid hc0
  have HL0 := Lib.hid hl0
  clear hc0 hl0
  intro i w hw hT hR
  unfold RepS at hR
  obtain ⟨xa, ha, hx0⟩ := hR
  obtain ⟨j, b, off, ln, a, cc, rfl, hj, rfl, hn⟩ := hT.node ha
  rw [← hm] at hj
  have hjI : (j : Int) < (m : Int) := by omega
  have hj0 : (0 : Int) ≤ (j : Int) := by omega
  have HV0 := Lib.hid hx0
  clear hx0
  have HT := Lib.hid hT
  have HW := Lib.hid hw
  have HN := Lib.hid hn
  have HM := Lib.hid hm
  clear hT hw ha hj hm
  go_enter Tryd.func69, Tryd.ntmps69
  go_upto_region 1 with fail
  have ka := Keeps.one w (.cells #[.slice (some ⟨b, off, none⟩) m c, .slice A' k c'] 27)
  obtain ⟨P1, hP1⟩ : ∃ X, X = w.heap.size := ⟨_, rfl⟩
  obtain ⟨w1, hw1⟩ : ∃ w1, w1 = w.alloc (.cells #[.slice (some ⟨b, off, none⟩) m c, .slice A' k c'] 27) := ⟨_, rfl⟩
  have HX1 : Hid (Loc w1 (fun _ => False) P1 [.slice (some ⟨b, off, none⟩) m c, .slice A' k c']) := Lib.hid (by rw [hw1, hP1]; exact Loc.new (fun h => h) [.slice (some ⟨b, off, none⟩) m c, .slice A' k c'] 27)
  have HN1 := Lib.hid (HN.out.keep (hw1 ▸ ka))
  rw [← hP1]
  rw [← hw1] at ka ⊢
  have K1 := Lib.hid ka
  have HT1 := Lib.hid (HT.out.keep ka)
  clear ka hw1 hP1 HT HN
  have x0 := HX1.out.cells 0 _ rfl
  have x1 := HX1.out.cells 1 _ rfl
  have c0 := HN1.out.c0
  have c1 := HN1.out.c1
  have c2 := HN1.out.c2
  have c3 := HN1.out.c3
  have c4 : w1.cell? ⟨b, off + j * 5 + 4, none⟩ = some (.slice a 1 cc) := HN1.out.c4
  go_upto_region 2 with fail
  have ka := Keeps.one w1 (.cells #[.int .i64 13, .int .i64 ln, .int .i64 0, .string (ofL []), .slice a 1 cc] 33)
  obtain ⟨P2, hP2⟩ : ∃ X, X = w1.heap.size := ⟨_, rfl⟩
  obtain ⟨w2, hw2⟩ : ∃ w2, w2 = w1.alloc (.cells #[.int .i64 13, .int .i64 ln, .int .i64 0, .string (ofL []), .slice a 1 cc] 33) := ⟨_, rfl⟩
  have HY2 : Hid (Loc w2 (fun _ => False) P2 [.int .i64 13, .int .i64 ln, .int .i64 0, .string (ofL []), .slice a 1 cc]) := Lib.hid (by rw [hw2, hP2]; exact Loc.new (fun h => h) [.int .i64 13, .int .i64 ln, .int .i64 0, .string (ofL []), .slice a 1 cc] 33)
  rw [← hP2]
  rw [← hw2] at ka ⊢
  have HX2 := Lib.hid (HX1.out.keeps ka)
  have HT2 := Lib.hid (HT1.out.keep ka)
  have HN2 := Lib.hid (HN1.out.keep ka)
  have K2 := Lib.hid (K1.out.trans ka (fun _ _ h => h))
  clear ka hw2 hP2 x0 x1 c0 c1 c2 c3 c4 HX1 HT1 HN1 K1
  have x0 := HX2.out.cells 0 _ rfl
  have x1 := HX2.out.cells 1 _ rfl
  have y0 := HY2.out.cells 0 _ rfl
  have y2 := HY2.out.cells 2 _ rfl
  have y3 := HY2.out.cells 3 _ rfl
  have y4 := HY2.out.cells 4 _ rfl
  obtain ⟨b0, o0, rfl, kc0⟩ := HN2.out.ro.get (k := 0) (by simp) (x := xa) rfl
  have kc0 : w2.cell? ⟨b0, o0, none⟩ = some (.int .i64 xa) := kc0
  obtain ⟨T0, hT0⟩ : ∃ S, S = ofL (showR (.call s l)) := ⟨_, rfl⟩
  have zt0 : T0.size ≤ 1000000 := by rw [hT0, ofL_size]; exact HL0.out
  have HS_0 := Lib.hid hT0
  have CH0 : Hid (∀ w', Keeps (fun _ => False) w2 w' → Calls Tryd.prog 21 #[.agg #[.slice (some ⟨b, off, none⟩) m c, .slice A' k c'], .int .i64 xa] w' fun r w'' => r = .returned (.string T0) ∧ Keeps (fun _ => False) w2 w'') := Lib.hid (fun w' q => by
    rw [HS_0.out]
    exact (HC0.out xa w' (HW.out.keep (K2.out.trans q (fun _ _ h => h))) (HT2.out.keep q) HV0.out).mono fun r w'' ⟨h1, h2⟩ => ⟨h1, q.trans h2 (fun _ _ h => h)⟩)
  have q0 : ¬ 9223372036854775807 < T0.size + 2 := by omega
  have HM2 : Hid (T0 ++ { data := #[59, 10] } = ofL (showS (.doo s l))) := Lib.hid (of_list (by rw [HS_0.out]; unfold showS; simp [bap_list, ofL_list, showK]; done))
  have SK : Hid (∀ w', Keeps (fun _ => False) w2 w' → (w'.cell? ⟨P1, 0, none⟩ = some ((.slice (some ⟨b, off, none⟩) m c)) ∧ w'.cell? ⟨P1, 1, none⟩ = some ((.slice A' k c')) ∧ w'.cell? ⟨P2, 4, none⟩ = some (.slice (some ⟨b0, o0, none⟩) 1 cc) ∧ w'.cell? ⟨b0, o0, none⟩ = some (.int .i64 xa)) ∧ Keeps (fun _ => False) w2 w') := Lib.hid (fun w' q => ⟨⟨(q.cell (cell_ltk x0) (fun h => h)).trans x0, (q.cell (cell_ltk x1) (fun h => h)).trans x1, (q.cell (cell_ltk y4) (fun h => h)).trans y4, (q.cell (cell_ltk kc0) (fun h => h)).trans kc0⟩, q⟩)
  clear hT0 zt0
  go_upto_region 10 with fail
  go_region_held3 (fun w' => (w'.cell? ⟨P1, 0, none⟩ = some ((.slice (some ⟨b, off, none⟩) m c)) ∧ w'.cell? ⟨P1, 1, none⟩ = some ((.slice A' k c')) ∧ w'.cell? ⟨P2, 4, none⟩ = some (.slice (some ⟨b0, o0, none⟩) 1 cc) ∧ w'.cell? ⟨b0, o0, none⟩ = some (.int .i64 xa)) ∧ Keeps (fun _ => False) w2 w') (first | exact SK.out _ (Keeps.refl _ _) | exact SK.out _ (by assumption) | exact SK.out _ ((Keeps.refl _ _).drew) | exact SK.out _ (Keeps.drew (by assumption))) (first | (go_at_call 21; first | (with_reducible refine (CH0.out _ (by first | assumption | exact (Keeps.refl _ _).drew | exact Keeps.drew (by assumption) | exact Keeps.refl _ _)).mono ?_; rintro r w4 ⟨rfl, k4⟩)))
  all_goals go_wp2_with fail
  all_goals go_ret
  all_goals exact ⟨by (rw [HM2.out]; first | done | rfl), K2.out.trans (by first | assumption | exact Keeps.drew (by assumption)) (fun _ _ h => h)⟩
set_option maxRecDepth 100000 in
set_option maxHeartbeats 16000000 in
theorem rs_print (Q : List UInt8 → Prop) (nd : List Nd) (fs : List Fnc) (A A' : Option Addr) (m k c c' : Nat) (hm : m = nd.length) (e : Ex) (hc0 : RXC Q nd fs A A' m k c c' e) (hl0 : (showE e).length ≤ 1000000) : RSC Q nd fs A A' m k c c' (.print e) := by
  have HC0 := Lib.hid hc0
  have HL0 := Lib.hid hl0
  clear hc0 hl0
  intro i w hw hT hR
  unfold RepS at hR
  obtain ⟨xa, ha, hx0⟩ := hR
  obtain ⟨j, b, off, ln, a, cc, rfl, hj, rfl, hn⟩ := hT.node ha
  rw [← hm] at hj
  have hjI : (j : Int) < (m : Int) := by omega
  have hj0 : (0 : Int) ≤ (j : Int) := by omega
  have HV0 := Lib.hid hx0
  clear hx0
  have HT := Lib.hid hT
  have HW := Lib.hid hw
  have HN := Lib.hid hn
  have HM := Lib.hid hm
  clear hT hw ha hj hm
  go_enter Tryd.func69, Tryd.ntmps69
  go_upto_region 1 with fail
  have ka := Keeps.one w (.cells #[.slice (some ⟨b, off, none⟩) m c, .slice A' k c'] 27)
  obtain ⟨P1, hP1⟩ : ∃ X, X = w.heap.size := ⟨_, rfl⟩
  obtain ⟨w1, hw1⟩ : ∃ w1, w1 = w.alloc (.cells #[.slice (some ⟨b, off, none⟩) m c, .slice A' k c'] 27) := ⟨_, rfl⟩
  have HX1 : Hid (Loc w1 (fun _ => False) P1 [.slice (some ⟨b, off, none⟩) m c, .slice A' k c']) := Lib.hid (by rw [hw1, hP1]; exact Loc.new (fun h => h) [.slice (some ⟨b, off, none⟩) m c, .slice A' k c'] 27)
  have HN1 := Lib.hid (HN.out.keep (hw1 ▸ ka))
  rw [← hP1]
  rw [← hw1] at ka ⊢
  have K1 := Lib.hid ka
  have HT1 := Lib.hid (HT.out.keep ka)
  clear ka hw1 hP1 HT HN
  have x0 := HX1.out.cells 0 _ rfl
  have x1 := HX1.out.cells 1 _ rfl
  have c0 := HN1.out.c0
  have c1 := HN1.out.c1
  have c2 := HN1.out.c2
  have c3 := HN1.out.c3
  have c4 : w1.cell? ⟨b, off + j * 5 + 4, none⟩ = some (.slice a 1 cc) := HN1.out.c4
  go_upto_region 2 with fail
  have ka := Keeps.one w1 (.cells #[.int .i64 14, .int .i64 ln, .int .i64 0, .string (ofL []), .slice a 1 cc] 33)
  obtain ⟨P2, hP2⟩ : ∃ X, X = w1.heap.size := ⟨_, rfl⟩
  obtain ⟨w2, hw2⟩ : ∃ w2, w2 = w1.alloc (.cells #[.int .i64 14, .int .i64 ln, .int .i64 0, .string (ofL []), .slice a 1 cc] 33) := ⟨_, rfl⟩
  have HY2 : Hid (Loc w2 (fun _ => False) P2 [.int .i64 14, .int .i64 ln, .int .i64 0, .string (ofL []), .slice a 1 cc]) := Lib.hid (by rw [hw2, hP2]; exact Loc.new (fun h => h) [.int .i64 14, .int .i64 ln, .int .i64 0, .string (ofL []), .slice a 1 cc] 33)
  rw [← hP2]
  rw [← hw2] at ka ⊢
  have HX2 := Lib.hid (HX1.out.keeps ka)
  have HT2 := Lib.hid (HT1.out.keep ka)
  have HN2 := Lib.hid (HN1.out.keep ka)
  have K2 := Lib.hid (K1.out.trans ka (fun _ _ h => h))
  clear ka hw2 hP2 x0 x1 c0 c1 c2 c3 c4 HX1 HT1 HN1 K1
  have x0 := HX2.out.cells 0 _ rfl
  have x1 := HX2.out.cells 1 _ rfl
  have y0 := HY2.out.cells 0 _ rfl
  have y2 := HY2.out.cells 2 _ rfl
  have y3 := HY2.out.cells 3 _ rfl
  have y4 := HY2.out.cells 4 _ rfl
  obtain ⟨b0, o0, rfl, kc0⟩ := HN2.out.ro.get (k := 0) (by simp) (x := xa) rfl
  have kc0 : w2.cell? ⟨b0, o0, none⟩ = some (.int .i64 xa) := kc0
  obtain ⟨T0, hT0⟩ : ∃ S, S = ofL (showE e) := ⟨_, rfl⟩
  have zt0 : T0.size ≤ 1000000 := by rw [hT0, ofL_size]; exact HL0.out
  have HS_0 := Lib.hid hT0
  have CH0 : Hid (∀ w', Keeps (fun _ => False) w2 w' → Calls Tryd.prog 21 #[.agg #[.slice (some ⟨b, off, none⟩) m c, .slice A' k c'], .int .i64 xa] w' fun r w'' => r = .returned (.string T0) ∧ Keeps (fun _ => False) w2 w'') := Lib.hid (fun w' q => by
    rw [HS_0.out]
    exact (HC0.out xa w' (HW.out.keep (K2.out.trans q (fun _ _ h => h))) (HT2.out.keep q) HV0.out).mono fun r w'' ⟨h1, h2⟩ => ⟨h1, q.trans h2 (fun _ _ h => h)⟩)
  have q0 : ¬ 9223372036854775807 < 6 + T0.size := by omega
  have q1 : ¬ 9223372036854775807 < 6 + T0.size + 2 := by omega
  have HM2 : Hid (({ data := #[112, 114, 105, 110, 116, 32] } : ByteArray) ++ T0 ++ { data := #[59, 10] } = ofL (showS (.print e))) := Lib.hid (of_list (by rw [HS_0.out]; unfold showS; simp [bap_list, ofL_list, showK]; done))
  have SK : Hid (∀ w', Keeps (fun _ => False) w2 w' → (w'.cell? ⟨P1, 0, none⟩ = some ((.slice (some ⟨b, off, none⟩) m c)) ∧ w'.cell? ⟨P1, 1, none⟩ = some ((.slice A' k c')) ∧ w'.cell? ⟨P2, 4, none⟩ = some (.slice (some ⟨b0, o0, none⟩) 1 cc) ∧ w'.cell? ⟨b0, o0, none⟩ = some (.int .i64 xa)) ∧ Keeps (fun _ => False) w2 w') := Lib.hid (fun w' q => ⟨⟨(q.cell (cell_ltk x0) (fun h => h)).trans x0, (q.cell (cell_ltk x1) (fun h => h)).trans x1, (q.cell (cell_ltk y4) (fun h => h)).trans y4, (q.cell (cell_ltk kc0) (fun h => h)).trans kc0⟩, q⟩)
  clear hT0 zt0
  go_upto_region 12 with fail
  go_region_held3 (fun w' => (w'.cell? ⟨P1, 0, none⟩ = some ((.slice (some ⟨b, off, none⟩) m c)) ∧ w'.cell? ⟨P1, 1, none⟩ = some ((.slice A' k c')) ∧ w'.cell? ⟨P2, 4, none⟩ = some (.slice (some ⟨b0, o0, none⟩) 1 cc) ∧ w'.cell? ⟨b0, o0, none⟩ = some (.int .i64 xa)) ∧ Keeps (fun _ => False) w2 w') (first | exact SK.out _ (Keeps.refl _ _) | exact SK.out _ (by assumption) | exact SK.out _ ((Keeps.refl _ _).drew) | exact SK.out _ (Keeps.drew (by assumption))) (first | (go_at_call 21; first | (with_reducible refine (CH0.out _ (by first | assumption | exact (Keeps.refl _ _).drew | exact Keeps.drew (by assumption) | exact Keeps.refl _ _)).mono ?_; rintro r w4 ⟨rfl, k4⟩)))
  all_goals go_wp2_with fail
  all_goals go_ret
  all_goals exact ⟨by (rw [HM2.out]; first | done | rfl), K2.out.trans (by first | assumption | exact Keeps.drew (by assumption)) (fun _ _ h => h)⟩
set_option maxRecDepth 100000 in
set_option maxHeartbeats 16000000 in
theorem rs_ret1 (Q : List UInt8 → Prop) (nd : List Nd) (fs : List Fnc) (A A' : Option Addr) (m k c c' : Nat) (hm : m = nd.length) (e : Ex) (hc0 : RXC Q nd fs A A' m k c c' e) (hl0 : (showE e).length ≤ 1000000) : RSC Q nd fs A A' m k c c' (.ret1 e) := by
  have HC0 := Lib.hid hc0
  have HL0 := Lib.hid hl0
  clear hc0 hl0
  intro i w hw hT hR
  unfold RepS at hR
  obtain ⟨xa, ha, hx0⟩ := hR
  obtain ⟨j, b, off, ln, a, cc, rfl, hj, rfl, hn⟩ := hT.node ha
  rw [← hm] at hj
  have hjI : (j : Int) < (m : Int) := by omega
  have hj0 : (0 : Int) ≤ (j : Int) := by omega
  have HV0 := Lib.hid hx0
  clear hx0
  have HT := Lib.hid hT
  have HW := Lib.hid hw
  have HN := Lib.hid hn
  have HM := Lib.hid hm
  clear hT hw ha hj hm
  go_enter Tryd.func69, Tryd.ntmps69
  go_upto_region 1 with fail
  have ka := Keeps.one w (.cells #[.slice (some ⟨b, off, none⟩) m c, .slice A' k c'] 27)
  obtain ⟨P1, hP1⟩ : ∃ X, X = w.heap.size := ⟨_, rfl⟩
  obtain ⟨w1, hw1⟩ : ∃ w1, w1 = w.alloc (.cells #[.slice (some ⟨b, off, none⟩) m c, .slice A' k c'] 27) := ⟨_, rfl⟩
  have HX1 : Hid (Loc w1 (fun _ => False) P1 [.slice (some ⟨b, off, none⟩) m c, .slice A' k c']) := Lib.hid (by rw [hw1, hP1]; exact Loc.new (fun h => h) [.slice (some ⟨b, off, none⟩) m c, .slice A' k c'] 27)
  have HN1 := Lib.hid (HN.out.keep (hw1 ▸ ka))
  rw [← hP1]
  rw [← hw1] at ka ⊢
  have K1 := Lib.hid ka
  have HT1 := Lib.hid (HT.out.keep ka)
  clear ka hw1 hP1 HT HN
  have x0 := HX1.out.cells 0 _ rfl
  have x1 := HX1.out.cells 1 _ rfl
  have c0 := HN1.out.c0
  have c1 := HN1.out.c1
  have c2 := HN1.out.c2
  have c3 := HN1.out.c3
  have c4 : w1.cell? ⟨b, off + j * 5 + 4, none⟩ = some (.slice a 1 cc) := HN1.out.c4
  go_upto_region 2 with fail
  have ka := Keeps.one w1 (.cells #[.int .i64 17, .int .i64 ln, .int .i64 0, .string (ofL []), .slice a 1 cc] 33)
  obtain ⟨P2, hP2⟩ : ∃ X, X = w1.heap.size := ⟨_, rfl⟩
  obtain ⟨w2, hw2⟩ : ∃ w2, w2 = w1.alloc (.cells #[.int .i64 17, .int .i64 ln, .int .i64 0, .string (ofL []), .slice a 1 cc] 33) := ⟨_, rfl⟩
  have HY2 : Hid (Loc w2 (fun _ => False) P2 [.int .i64 17, .int .i64 ln, .int .i64 0, .string (ofL []), .slice a 1 cc]) := Lib.hid (by rw [hw2, hP2]; exact Loc.new (fun h => h) [.int .i64 17, .int .i64 ln, .int .i64 0, .string (ofL []), .slice a 1 cc] 33)
  rw [← hP2]
  rw [← hw2] at ka ⊢
  have HX2 := Lib.hid (HX1.out.keeps ka)
  have HT2 := Lib.hid (HT1.out.keep ka)
  have HN2 := Lib.hid (HN1.out.keep ka)
  have K2 := Lib.hid (K1.out.trans ka (fun _ _ h => h))
  clear ka hw2 hP2 x0 x1 c0 c1 c2 c3 c4 HX1 HT1 HN1 K1
  have x0 := HX2.out.cells 0 _ rfl
  have x1 := HX2.out.cells 1 _ rfl
  have y0 := HY2.out.cells 0 _ rfl
  have y2 := HY2.out.cells 2 _ rfl
  have y3 := HY2.out.cells 3 _ rfl
  have y4 := HY2.out.cells 4 _ rfl
  obtain ⟨b0, o0, rfl, kc0⟩ := HN2.out.ro.get (k := 0) (by simp) (x := xa) rfl
  have kc0 : w2.cell? ⟨b0, o0, none⟩ = some (.int .i64 xa) := kc0
  obtain ⟨T0, hT0⟩ : ∃ S, S = ofL (showE e) := ⟨_, rfl⟩
  have zt0 : T0.size ≤ 1000000 := by rw [hT0, ofL_size]; exact HL0.out
  have HS_0 := Lib.hid hT0
  have CH0 : Hid (∀ w', Keeps (fun _ => False) w2 w' → Calls Tryd.prog 21 #[.agg #[.slice (some ⟨b, off, none⟩) m c, .slice A' k c'], .int .i64 xa] w' fun r w'' => r = .returned (.string T0) ∧ Keeps (fun _ => False) w2 w'') := Lib.hid (fun w' q => by
    rw [HS_0.out]
    exact (HC0.out xa w' (HW.out.keep (K2.out.trans q (fun _ _ h => h))) (HT2.out.keep q) HV0.out).mono fun r w'' ⟨h1, h2⟩ => ⟨h1, q.trans h2 (fun _ _ h => h)⟩)
  have q0 : ¬ 9223372036854775807 < 7 + T0.size := by omega
  have q1 : ¬ 9223372036854775807 < 7 + T0.size + 2 := by omega
  have HM2 : Hid (({ data := #[114, 101, 116, 117, 114, 110, 32] } : ByteArray) ++ T0 ++ { data := #[59, 10] } = ofL (showS (.ret1 e))) := Lib.hid (of_list (by rw [HS_0.out]; unfold showS; simp [bap_list, ofL_list, showK]; done))
  have SK : Hid (∀ w', Keeps (fun _ => False) w2 w' → (w'.cell? ⟨P1, 0, none⟩ = some ((.slice (some ⟨b, off, none⟩) m c)) ∧ w'.cell? ⟨P1, 1, none⟩ = some ((.slice A' k c')) ∧ w'.cell? ⟨P2, 4, none⟩ = some (.slice (some ⟨b0, o0, none⟩) 1 cc) ∧ w'.cell? ⟨b0, o0, none⟩ = some (.int .i64 xa)) ∧ Keeps (fun _ => False) w2 w') := Lib.hid (fun w' q => ⟨⟨(q.cell (cell_ltk x0) (fun h => h)).trans x0, (q.cell (cell_ltk x1) (fun h => h)).trans x1, (q.cell (cell_ltk y4) (fun h => h)).trans y4, (q.cell (cell_ltk kc0) (fun h => h)).trans kc0⟩, q⟩)
  clear hT0 zt0
  go_upto_region 16 with fail
  go_region_held3 (fun w' => (w'.cell? ⟨P1, 0, none⟩ = some ((.slice (some ⟨b, off, none⟩) m c)) ∧ w'.cell? ⟨P1, 1, none⟩ = some ((.slice A' k c')) ∧ w'.cell? ⟨P2, 4, none⟩ = some (.slice (some ⟨b0, o0, none⟩) 1 cc) ∧ w'.cell? ⟨b0, o0, none⟩ = some (.int .i64 xa)) ∧ Keeps (fun _ => False) w2 w') (first | exact SK.out _ (Keeps.refl _ _) | exact SK.out _ (by assumption) | exact SK.out _ ((Keeps.refl _ _).drew) | exact SK.out _ (Keeps.drew (by assumption))) (first | (go_at_call 21; first | (with_reducible refine (CH0.out _ (by first | assumption | exact (Keeps.refl _ _).drew | exact Keeps.drew (by assumption) | exact Keeps.refl _ _)).mono ?_; rintro r w4 ⟨rfl, k4⟩)))
  all_goals go_wp2_with fail
  all_goals go_ret
  all_goals exact ⟨by (rw [HM2.out]; first | done | rfl), K2.out.trans (by first | assumption | exact Keeps.drew (by assumption)) (fun _ _ h => h)⟩
end Go.Proofs.YtgelggdgbmldiaaDoor
