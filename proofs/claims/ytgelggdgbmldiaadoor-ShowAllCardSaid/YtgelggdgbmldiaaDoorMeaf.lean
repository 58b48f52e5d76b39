/-
  Layer 3: the document's text of an expression. Written by an AI agent.
  Layer 3: the document's text of an expression. Written by an AI agent.
-/
import Derived.Lib.Bytealg
import Derived.Test.YtgelggdgbmldiaaDoorChecked
import Derived.Laws.OwnMore
import Derived.Laws.AppendOwnNone
import Derived.OwnWalk
import Derived.Lib.AppendZerosOnto
import Derived.Below
import Derived.Stop.Walk2
import Derived.WalkKit
import Derived.WalkLawsBesides
import Derived.WalkSpells
import Derived.Outline
import Derived.BigQuiet
import Derived.Deep.CutBlock
import Derived.Deep.CutRange
import Derived.Deep.DeepCutAuto
import Derived.Deep.RegionHeld3
import Derived.Deep.RegionLaw
import Derived.Deep.RegionWith
import Derived.StillTailTactics
import Derived.RegionTactic
import Derived.Laws.StructEq
import Derived.Lib.Hide
import Derived.Shelf.Abstract
import Derived.Shelf.Lay
import Derived.Ground.NamesProg
import Derived.Shelf.Strings.Prefix
import Derived.Shelf.Small.Strs
import Derived.Shelf.Strings.Count
import Derived.Shelf.Strconv.ErrVarParseInt
import Derived.WalkMore
import Derived.Scope
import Derived.Shelf.Slices.Turned
import Derived.Lib.SlicesS
import Derived.Deep.RegionHeld
import Derived.Deep.LoopGhost
import Derived.Deep.Light
import Derived.Shelf.Strconv.Itoa3
import Derived.Lib.LaidTab
import Derived.Lib.ItoaLen
import Derived.Test.YtgelggdgbmldiaaDoorMcaa
import Derived.Test.YtgelggdgbmldiaaDoorMcab
import Derived.Test.YtgelggdgbmldiaaDoorMcac
import Derived.Test.YtgelggdgbmldiaaDoorMcad
import Derived.Test.YtgelggdgbmldiaaDoorMcae
import Derived.Test.YtgelggdgbmldiaaDoorMcaf
import Derived.Test.YtgelggdgbmldiaaDoorMcag
import Derived.Test.YtgelggdgbmldiaaDoorMcah
import Derived.Test.YtgelggdgbmldiaaDoorMcai
import Derived.Test.YtgelggdgbmldiaaDoorMeaa
import Derived.Test.YtgelggdgbmldiaaDoorMeab
import Derived.Test.YtgelggdgbmldiaaDoorMeac
import Derived.Test.YtgelggdgbmldiaaDoorMead
import Derived.Test.YtgelggdgbmldiaaDoorMeae
namespace Go.Proofs.YtgelggdgbmldiaaDoor
open Go Go.RowKit Go.Shelf
set_option linter.unusedVariables false
set_option linter.unusedSimpArgs false
set_option maxRecDepth 100000 in
set_option maxHeartbeats 16000000 in
theorem rs_put (Q : List UInt8 → Prop) (nd : List Nd) (fs : List Fnc) (A A' : Option Addr) (m k c c' : Nat) (hm : m = nd.length) (s : List UInt8) (e f : Ex) (hl : s.length ≤ 1000000) (hc0 : RXC Q nd fs A A' m k c c' e) (hl0 : (showE e).length ≤ 1000000) (hc1 : RXC Q nd fs A A' m k c c' f) (hl1 : (showE f).length ≤ 1000000) : RSC Q nd fs A A' m k c c' (.put s e f) := by
  have HC0 := Lib.hid hc0
  have HL0 := Lib.hid hl0
  have HC1 := Lib.hid hc1
  have HL1 := Lib.hid hl1
  clear hc0 hl0
  clear hc1 hl1
  intro i w hw hT hR
  unfold RepS at hR
  obtain ⟨xa, xb, ha, _, hx0, hx1⟩ := hR
  obtain ⟨j, b, off, ln, a, cc, rfl, hj, rfl, hn⟩ := hT.node ha
  rw [← hm] at hj
  have hjI : (j : Int) < (m : Int) := by omega
  have hj0 : (0 : Int) ≤ (j : Int) := by omega
  have HV0 := Lib.hid hx0
  clear hx0
  have HV1 := Lib.hid hx1
  clear hx1
  have HT := Lib.hid hT
  have HW := Lib.hid hw
  have HN := Lib.hid hn
  have HM := Lib.hid hm
  clear hT hw ha hj hm
  go_enter Tryd.func69, Tryd.ntmps69
  go_upto_region 1 with fail
  have ka := Keeps.one w (.cells #[.slice (some ⟨b, off, none⟩) m c, .slice A' k c'] 27)
  obtain ⟨P1, hP1⟩ : ∃ X, X = w.heap.size := ⟨_, rfl⟩
  obtain ⟨w1, hw1⟩ : ∃ w1, w1 = w.alloc (.cells #[.slice (some ⟨b, off, none⟩) m c, .slice A' k c'] 27) := ⟨_, rfl⟩
  have HX1 : Hid (Loc w1 (fun _ => False) P1 [.slice (some ⟨b, off, none⟩) m c, .slice A' k c']) := Lib.hid (by rw [hw1, hP1]; exact Loc.new (fun h => h) [.slice (some ⟨b, off, none⟩) m c, .slice A' k c'] 27)
  have HN1 := Lib.hid (HN.out.keep (hw1 ▸ ka))
  rw [← hP1]
  rw [← hw1] at ka ⊢
  have K1 := Lib.hid ka
  have HT1 := Lib.hid (HT.out.keep ka)
  clear ka hw1 hP1 HT HN
  have x0 := HX1.out.cells 0 _ rfl
  have x1 := HX1.out.cells 1 _ rfl
  have c0 := HN1.out.c0
  have c1 := HN1.out.c1
  have c2 := HN1.out.c2
  have c3 := HN1.out.c3
  have c4 : w1.cell? ⟨b, off + j * 5 + 4, none⟩ = some (.slice a 2 cc) := HN1.out.c4
  go_upto_region 2 with fail
  have ka := Keeps.one w1 (.cells #[.int .i64 12, .int .i64 ln, .int .i64 0, .string (ofL s), .slice a 2 cc] 33)
  obtain ⟨P2, hP2⟩ : ∃ X, X = w1.heap.size := ⟨_, rfl⟩
  obtain ⟨w2, hw2⟩ : ∃ w2, w2 = w1.alloc (.cells #[.int .i64 12, .int .i64 ln, .int .i64 0, .string (ofL s), .slice a 2 cc] 33) := ⟨_, rfl⟩
  have HY2 : Hid (Loc w2 (fun _ => False) P2 [.int .i64 12, .int .i64 ln, .int .i64 0, .string (ofL s), .slice a 2 cc]) := Lib.hid (by rw [hw2, hP2]; exact Loc.new (fun h => h) [.int .i64 12, .int .i64 ln, .int .i64 0, .string (ofL s), .slice a 2 cc] 33)
  rw [← hP2]
  rw [← hw2] at ka ⊢
  have HX2 := Lib.hid (HX1.out.keeps ka)
  have HT2 := Lib.hid (HT1.out.keep ka)
  have HN2 := Lib.hid (HN1.out.keep ka)
  have K2 := Lib.hid (K1.out.trans ka (fun _ _ h => h))
  clear ka hw2 hP2 x0 x1 c0 c1 c2 c3 c4 HX1 HT1 HN1 K1
  have x0 := HX2.out.cells 0 _ rfl
  have x1 := HX2.out.cells 1 _ rfl
  have y0 := HY2.out.cells 0 _ rfl
  have y2 := HY2.out.cells 2 _ rfl
  have y3 := HY2.out.cells 3 _ rfl
  have y4 := HY2.out.cells 4 _ rfl
  obtain ⟨b0, o0, rfl, kc0⟩ := HN2.out.ro.get (k := 0) (by simp) (x := xa) rfl
  have kc0 : w2.cell? ⟨b0, o0, none⟩ = some (.int .i64 xa) := kc0
  obtain ⟨b1, o1, ea1, kc1⟩ := HN2.out.ro.get (k := 1) (by simp) (x := xb) rfl
  cases ea1
  obtain ⟨S1, hS1⟩ : ∃ S, S = ofL s := ⟨_, rfl⟩
  have z1 : S1.size = s.length := by rw [hS1]; exact ofL_size _
  have HS1 := Lib.hid hS1
  rw [← hS1] at y3
  obtain ⟨T0, hT0⟩ : ∃ S, S = ofL (showE e) := ⟨_, rfl⟩
  have zt0 : T0.size ≤ 1000000 := by rw [hT0, ofL_size]; exact HL0.out
  have HS_0 := Lib.hid hT0
  have CH0 : Hid (∀ w', Keeps (fun _ => False) w2 w' → Calls Tryd.prog 21 #[.agg #[.slice (some ⟨b, off, none⟩) m c, .slice A' k c'], .int .i64 xa] w' fun r w'' => r = .returned (.string T0) ∧ Keeps (fun _ => False) w2 w'') := Lib.hid (fun w' q => by
    rw [HS_0.out]
    exact (HC0.out xa w' (HW.out.keep (K2.out.trans q (fun _ _ h => h))) (HT2.out.keep q) HV0.out).mono fun r w'' ⟨h1, h2⟩ => ⟨h1, q.trans h2 (fun _ _ h => h)⟩)
  obtain ⟨T1, hT1⟩ : ∃ S, S = ofL (showE f) := ⟨_, rfl⟩
  have zt1 : T1.size ≤ 1000000 := by rw [hT1, ofL_size]; exact HL1.out
  have HS_1 := Lib.hid hT1
  have CH1 : Hid (∀ w', Keeps (fun _ => False) w2 w' → Calls Tryd.prog 21 #[.agg #[.slice (some ⟨b, off, none⟩) m c, .slice A' k c'], .int .i64 xb] w' fun r w'' => r = .returned (.string T1) ∧ Keeps (fun _ => False) w2 w'') := Lib.hid (fun w' q => by
    rw [HS_1.out]
    exact (HC1.out xb w' (HW.out.keep (K2.out.trans q (fun _ _ h => h))) (HT2.out.keep q) HV1.out).mono fun r w'' ⟨h1, h2⟩ => ⟨h1, q.trans h2 (fun _ _ h => h)⟩)
  have q0 : ¬ 9223372036854775807 < S1.size + 1 := by omega
  have q1 : ¬ 9223372036854775807 < S1.size + 1 + T0.size := by omega
  have q2 : ¬ 9223372036854775807 < S1.size + 1 + T0.size + 2 := by omega
  have q3 : ¬ 9223372036854775807 < S1.size + 1 + T0.size + 2 + T1.size := by omega
  have q4 : ¬ 9223372036854775807 < S1.size + 1 + T0.size + 2 + T1.size + 2 := by omega
  have HM2 : Hid (S1 ++ { data := #[91] } ++ T0 ++ { data := #[93, 61] } ++ T1 ++ { data := #[59, 10] } = ofL (showS (.put s e f))) := Lib.hid (of_list (by rw [HS_0.out, HS_1.out, HS1.out]; unfold showS; simp [bap_list, ofL_list, showK]; done))
  have SK : Hid (∀ w', Keeps (fun _ => False) w2 w' → (w'.cell? ⟨P1, 0, none⟩ = some ((.slice (some ⟨b, off, none⟩) m c)) ∧ w'.cell? ⟨P1, 1, none⟩ = some ((.slice A' k c')) ∧ w'.cell? ⟨P2, 3, none⟩ = some (.string S1) ∧ w'.cell? ⟨P2, 4, none⟩ = some (.slice (some ⟨b0, o0, none⟩) 2 cc) ∧ w'.cell? ⟨b0, o0, none⟩ = some (.int .i64 xa) ∧ w'.cell? ⟨b0, (o0 + 1), none⟩ = some (.int .i64 xb)) ∧ Keeps (fun _ => False) w2 w') := Lib.hid (fun w' q => ⟨⟨(q.cell (cell_ltk x0) (fun h => h)).trans x0, (q.cell (cell_ltk x1) (fun h => h)).trans x1, (q.cell (cell_ltk y3) (fun h => h)).trans y3, (q.cell (cell_ltk y4) (fun h => h)).trans y4, (q.cell (cell_ltk kc0) (fun h => h)).trans kc0, (q.cell (cell_ltk kc1) (fun h => h)).trans kc1⟩, q⟩)
  clear hT0 zt0 hT1 zt1 hS1 z1
  go_upto_region 8 with fail
  go_region_held3 (fun w' => (w'.cell? ⟨P1, 0, none⟩ = some ((.slice (some ⟨b, off, none⟩) m c)) ∧ w'.cell? ⟨P1, 1, none⟩ = some ((.slice A' k c')) ∧ w'.cell? ⟨P2, 3, none⟩ = some (.string S1) ∧ w'.cell? ⟨P2, 4, none⟩ = some (.slice (some ⟨b0, o0, none⟩) 2 cc) ∧ w'.cell? ⟨b0, o0, none⟩ = some (.int .i64 xa) ∧ w'.cell? ⟨b0, (o0 + 1), none⟩ = some (.int .i64 xb)) ∧ Keeps (fun _ => False) w2 w') (first | exact SK.out _ (Keeps.refl _ _) | exact SK.out _ (by assumption) | exact SK.out _ ((Keeps.refl _ _).drew) | exact SK.out _ (Keeps.drew (by assumption))) (first | (go_at_call 21; first | (with_reducible refine (CH0.out _ (by first | assumption | exact (Keeps.refl _ _).drew | exact Keeps.drew (by assumption) | exact Keeps.refl _ _)).mono ?_; rintro r w4 ⟨rfl, k4⟩) | (with_reducible refine (CH1.out _ (by first | assumption | exact (Keeps.refl _ _).drew | exact Keeps.drew (by assumption) | exact Keeps.refl _ _)).mono ?_; rintro r w4 ⟨rfl, k4⟩)))
  all_goals go_wp2_with fail
  all_goals go_ret
  all_goals exact ⟨by (rw [HM2.out]; first | done | rfl), K2.out.trans (by first | assumption | exact Keeps.drew (by assumption)) (fun _ _ h => h)⟩
set_option maxRecDepth 100000 in
set_option maxHeartbeats 16000000 in
theorem rs_whil (Q : List UInt8 → Prop) (nd : List Nd) (fs : List Fnc) (A A' : Option Addr) (m k c c' : Nat) (hm : m = nd.length) (e : Ex) (bb : Bl) (hc0 : RXC Q nd fs A A' m k c c' e) (hl0 : (showE e).length ≤ 1000000) (hc1 : RKC Q nd fs A A' m k c c' bb) (hl1 : (showK bb).length ≤ 1000000) : RSC Q nd fs A A' m k c c' (.whil e bb) := by
  have HC0 := Lib.hid hc0
  have HL0 := Lib.hid hl0
  have HC1 := Lib.hid hc1
  have HL1 := Lib.hid hl1
  clear hc0 hl0
  clear hc1 hl1
  intro i w hw hT hR
  unfold RepS at hR
  obtain ⟨xa, xb, ys, ha, hx0, hb1, hb2⟩ := hR
  obtain ⟨j, b, off, ln, a, cc, rfl, hj, rfl, hn⟩ := hT.node ha
  rw [← hm] at hj
  have hjI : (j : Int) < (m : Int) := by omega
  have hj0 : (0 : Int) ≤ (j : Int) := by omega
  have hx1 : ∃ ys, At nd xb 18 0 [] ys ∧ RepB Q nd bb ys := ⟨ys, hb1, hb2⟩
  clear hb1 hb2
  have HV0 := Lib.hid hx0
  clear hx0
  have HV1 := Lib.hid hx1
  clear hx1
  have HT := Lib.hid hT
  have HW := Lib.hid hw
  have HN := Lib.hid hn
  have HM := Lib.hid hm
  clear hT hw ha hj hm
  go_enter Tryd.func69, Tryd.ntmps69
  go_upto_region 1 with fail
  have ka := Keeps.one w (.cells #[.slice (some ⟨b, off, none⟩) m c, .slice A' k c'] 27)
  obtain ⟨P1, hP1⟩ : ∃ X, X = w.heap.size := ⟨_, rfl⟩
  obtain ⟨w1, hw1⟩ : ∃ w1, w1 = w.alloc (.cells #[.slice (some ⟨b, off, none⟩) m c, .slice A' k c'] 27) := ⟨_, rfl⟩
  have HX1 : Hid (Loc w1 (fun _ => False) P1 [.slice (some ⟨b, off, none⟩) m c, .slice A' k c']) := Lib.hid (by rw [hw1, hP1]; exact Loc.new (fun h => h) [.slice (some ⟨b, off, none⟩) m c, .slice A' k c'] 27)
  have HN1 := Lib.hid (HN.out.keep (hw1 ▸ ka))
  rw [← hP1]
  rw [← hw1] at ka ⊢
  have K1 := Lib.hid ka
  have HT1 := Lib.hid (HT.out.keep ka)
  clear ka hw1 hP1 HT HN
  have x0 := HX1.out.cells 0 _ rfl
  have x1 := HX1.out.cells 1 _ rfl
  have c0 := HN1.out.c0
  have c1 := HN1.out.c1
  have c2 := HN1.out.c2
  have c3 := HN1.out.c3
  have c4 : w1.cell? ⟨b, off + j * 5 + 4, none⟩ = some (.slice a 2 cc) := HN1.out.c4
  go_upto_region 2 with fail
  have ka := Keeps.one w1 (.cells #[.int .i64 16, .int .i64 ln, .int .i64 0, .string (ofL []), .slice a 2 cc] 33)
  obtain ⟨P2, hP2⟩ : ∃ X, X = w1.heap.size := ⟨_, rfl⟩
  obtain ⟨w2, hw2⟩ : ∃ w2, w2 = w1.alloc (.cells #[.int .i64 16, .int .i64 ln, .int .i64 0, .string (ofL []), .slice a 2 cc] 33) := ⟨_, rfl⟩
  have HY2 : Hid (Loc w2 (fun _ => False) P2 [.int .i64 16, .int .i64 ln, .int .i64 0, .string (ofL []), .slice a 2 cc]) := Lib.hid (by rw [hw2, hP2]; exact Loc.new (fun h => h) [.int .i64 16, .int .i64 ln, .int .i64 0, .string (ofL []), .slice a 2 cc] 33)
  rw [← hP2]
  rw [← hw2] at ka ⊢
  have HX2 := Lib.hid (HX1.out.keeps ka)
  have HT2 := Lib.hid (HT1.out.keep ka)
  have HN2 := Lib.hid (HN1.out.keep ka)
  have K2 := Lib.hid (K1.out.trans ka (fun _ _ h => h))
  clear ka hw2 hP2 x0 x1 c0 c1 c2 c3 c4 HX1 HT1 HN1 K1
  have x0 := HX2.out.cells 0 _ rfl
  have x1 := HX2.out.cells 1 _ rfl
  have y0 := HY2.out.cells 0 _ rfl
  have y2 := HY2.out.cells 2 _ rfl
  have y3 := HY2.out.cells 3 _ rfl
  have y4 := HY2.out.cells 4 _ rfl
  obtain ⟨b0, o0, rfl, kc0⟩ := HN2.out.ro.get (k := 0) (by simp) (x := xa) rfl
  have kc0 : w2.cell? ⟨b0, o0, none⟩ = some (.int .i64 xa) := kc0
  obtain ⟨b1, o1, ea1, kc1⟩ := HN2.out.ro.get (k := 1) (by simp) (x := xb) rfl
  cases ea1
  obtain ⟨T0, hT0⟩ : ∃ S, S = ofL (showE e) := ⟨_, rfl⟩
  have zt0 : T0.size ≤ 1000000 := by rw [hT0, ofL_size]; exact HL0.out
  have HS_0 := Lib.hid hT0
  have CH0 : Hid (∀ w', Keeps (fun _ => False) w2 w' → Calls Tryd.prog 21 #[.agg #[.slice (some ⟨b, off, none⟩) m c, .slice A' k c'], .int .i64 xa] w' fun r w'' => r = .returned (.string T0) ∧ Keeps (fun _ => False) w2 w'') := Lib.hid (fun w' q => by
    rw [HS_0.out]
    exact (HC0.out xa w' (HW.out.keep (K2.out.trans q (fun _ _ h => h))) (HT2.out.keep q) HV0.out).mono fun r w'' ⟨h1, h2⟩ => ⟨h1, q.trans h2 (fun _ _ h => h)⟩)
  obtain ⟨T1, hT1⟩ : ∃ S, S = ofL (showK bb) := ⟨_, rfl⟩
  have zt1 : T1.size ≤ 1000000 := by rw [hT1, ofL_size]; exact HL1.out
  have HS_1 := Lib.hid hT1
  have CH1 : Hid (∀ w', Keeps (fun _ => False) w2 w' → Calls Tryd.prog 41 #[.agg #[.slice (some ⟨b, off, none⟩) m c, .slice A' k c'], .int .i64 xb] w' fun r w'' => r = .returned (.string T1) ∧ Keeps (fun _ => False) w2 w'') := Lib.hid (fun w' q => by
    rw [HS_1.out]
    exact (HC1.out xb w' (HW.out.keep (K2.out.trans q (fun _ _ h => h))) (HT2.out.keep q) HV1.out).mono fun r w'' ⟨h1, h2⟩ => ⟨h1, q.trans h2 (fun _ _ h => h)⟩)
  have q0 : ¬ 9223372036854775807 < 6 + T0.size := by omega
  have q1 : ¬ 9223372036854775807 < 6 + T0.size + T1.size := by omega
  have HM2 : Hid (({ data := #[119, 104, 105, 108, 101, 32] } : ByteArray) ++ T0 ++ T1 = ofL (showS (.whil e bb))) := Lib.hid (of_list (by rw [HS_0.out, HS_1.out]; unfold showS; simp [bap_list, ofL_list, showK]; done))
  have SK : Hid (∀ w', Keeps (fun _ => False) w2 w' → (w'.cell? ⟨P1, 0, none⟩ = some ((.slice (some ⟨b, off, none⟩) m c)) ∧ w'.cell? ⟨P1, 1, none⟩ = some ((.slice A' k c')) ∧ w'.cell? ⟨P2, 4, none⟩ = some (.slice (some ⟨b0, o0, none⟩) 2 cc) ∧ w'.cell? ⟨b0, o0, none⟩ = some (.int .i64 xa) ∧ w'.cell? ⟨b0, (o0 + 1), none⟩ = some (.int .i64 xb)) ∧ Keeps (fun _ => False) w2 w') := Lib.hid (fun w' q => ⟨⟨(q.cell (cell_ltk x0) (fun h => h)).trans x0, (q.cell (cell_ltk x1) (fun h => h)).trans x1, (q.cell (cell_ltk y4) (fun h => h)).trans y4, (q.cell (cell_ltk kc0) (fun h => h)).trans kc0, (q.cell (cell_ltk kc1) (fun h => h)).trans kc1⟩, q⟩)
  clear hT0 zt0 hT1 zt1
  go_upto_region 18 with fail
  go_region_held3 (fun w' => (w'.cell? ⟨P1, 0, none⟩ = some ((.slice (some ⟨b, off, none⟩) m c)) ∧ w'.cell? ⟨P1, 1, none⟩ = some ((.slice A' k c')) ∧ w'.cell? ⟨P2, 4, none⟩ = some (.slice (some ⟨b0, o0, none⟩) 2 cc) ∧ w'.cell? ⟨b0, o0, none⟩ = some (.int .i64 xa) ∧ w'.cell? ⟨b0, (o0 + 1), none⟩ = some (.int .i64 xb)) ∧ Keeps (fun _ => False) w2 w') (first | exact SK.out _ (Keeps.refl _ _) | exact SK.out _ (by assumption) | exact SK.out _ ((Keeps.refl _ _).drew) | exact SK.out _ (Keeps.drew (by assumption))) (first | (go_at_call 21; first | (with_reducible refine (CH0.out _ (by first | assumption | exact (Keeps.refl _ _).drew | exact Keeps.drew (by assumption) | exact Keeps.refl _ _)).mono ?_; rintro r w4 ⟨rfl, k4⟩)) | (go_at_call 41; first | (with_reducible refine (CH1.out _ (by first | assumption | exact (Keeps.refl _ _).drew | exact Keeps.drew (by assumption) | exact Keeps.refl _ _)).mono ?_; rintro r w4 ⟨rfl, k4⟩)))
  all_goals go_wp2_with fail
  all_goals go_ret
  all_goals exact ⟨by (rw [HM2.out]; first | done | rfl), K2.out.trans (by first | assumption | exact Keeps.drew (by assumption)) (fun _ _ h => h)⟩
set_option maxRecDepth 100000 in
set_option maxHeartbeats 16000000 in
theorem rs_ifs (Q : List UInt8 → Prop) (nd : List Nd) (fs : List Fnc) (A A' : Option Addr) (m k c c' : Nat) (hm : m = nd.length) (e : Ex) (bb : Bl) (hc0 : RXC Q nd fs A A' m k c c' e) (hl0 : (showE e).length ≤ 1000000) (hc1 : RKC Q nd fs A A' m k c c' bb) (hl1 : (showK bb).length ≤ 1000000) : RSC Q nd fs A A' m k c c' (.ifs e bb) := by
  have HC0 := Lib.hid hc0
  have HL0 := Lib.hid hl0
  have HC1 := Lib.hid hc1
  have HL1 := Lib.hid hl1
  clear hc0 hl0
  clear hc1 hl1
  intro i w hw hT hR
  unfold RepS at hR
  obtain ⟨xa, xb, ys, ha, hx0, hb1, hb2⟩ := hR
  obtain ⟨j, b, off, ln, a, cc, rfl, hj, rfl, hn⟩ := hT.node ha
  rw [← hm] at hj
  have hjI : (j : Int) < (m : Int) := by omega
  have hj0 : (0 : Int) ≤ (j : Int) := by omega
  have hx1 : ∃ ys, At nd xb 18 0 [] ys ∧ RepB Q nd bb ys := ⟨ys, hb1, hb2⟩
  clear hb1 hb2
  have HV0 := Lib.hid hx0
  clear hx0
  have HV1 := Lib.hid hx1
  clear hx1
  have HT := Lib.hid hT
  have HW := Lib.hid hw
  have HN := Lib.hid hn
  have HM := Lib.hid hm
  clear hT hw ha hj hm
  go_enter Tryd.func69, Tryd.ntmps69
  go_upto_region 1 with fail
  have ka := Keeps.one w (.cells #[.slice (some ⟨b, off, none⟩) m c, .slice A' k c'] 27)
  obtain ⟨P1, hP1⟩ : ∃ X, X = w.heap.size := ⟨_, rfl⟩
  obtain ⟨w1, hw1⟩ : ∃ w1, w1 = w.alloc (.cells #[.slice (some ⟨b, off, none⟩) m c, .slice A' k c'] 27) := ⟨_, rfl⟩
  have HX1 : Hid (Loc w1 (fun _ => False) P1 [.slice (some ⟨b, off, none⟩) m c, .slice A' k c']) := Lib.hid (by rw [hw1, hP1]; exact Loc.new (fun h => h) [.slice (some ⟨b, off, none⟩) m c, .slice A' k c'] 27)
  have HN1 := Lib.hid (HN.out.keep (hw1 ▸ ka))
  rw [← hP1]
  rw [← hw1] at ka ⊢
  have K1 := Lib.hid ka
  have HT1 := Lib.hid (HT.out.keep ka)
  clear ka hw1 hP1 HT HN
  have x0 := HX1.out.cells 0 _ rfl
  have x1 := HX1.out.cells 1 _ rfl
  have c0 := HN1.out.c0
  have c1 := HN1.out.c1
  have c2 := HN1.out.c2
  have c3 := HN1.out.c3
  have c4 : w1.cell? ⟨b, off + j * 5 + 4, none⟩ = some (.slice a 2 cc) := HN1.out.c4
  go_upto_region 2 with fail
  have ka := Keeps.one w1 (.cells #[.int .i64 15, .int .i64 ln, .int .i64 0, .string (ofL []), .slice a 2 cc] 33)
  obtain ⟨P2, hP2⟩ : ∃ X, X = w1.heap.size := ⟨_, rfl⟩
  obtain ⟨w2, hw2⟩ : ∃ w2, w2 = w1.alloc (.cells #[.int .i64 15, .int .i64 ln, .int .i64 0, .string (ofL []), .slice a 2 cc] 33) := ⟨_, rfl⟩
  have HY2 : Hid (Loc w2 (fun _ => False) P2 [.int .i64 15, .int .i64 ln, .int .i64 0, .string (ofL []), .slice a 2 cc]) := Lib.hid (by rw [hw2, hP2]; exact Loc.new (fun h => h) [.int .i64 15, .int .i64 ln, .int .i64 0, .string (ofL []), .slice a 2 cc] 33)
  rw [← hP2]
  rw [← hw2] at ka ⊢
  have HX2 := Lib.hid (HX1.out.keeps ka)
  have HT2 := Lib.hid (HT1.out.keep ka)
  have HN2 := Lib.hid (HN1.out.keep ka)
  have K2 := Lib.hid (K1.out.trans ka (fun _ _ h => h))
  clear ka hw2 hP2 x0 x1 c0 c1 c2 c3 c4 HX1 HT1 HN1 K1
  have x0 := HX2.out.cells 0 _ rfl
  have x1 := HX2.out.cells 1 _ rfl
  have y0 := HY2.out.cells 0 _ rfl
  have y2 := HY2.out.cells 2 _ rfl
  have y3 := HY2.out.cells 3 _ rfl
  have y4 := HY2.out.cells 4 _ rfl
  obtain ⟨b0, o0, rfl, kc0⟩ := HN2.out.ro.get (k := 0) (by simp) (x := xa) rfl
  have kc0 : w2.cell? ⟨b0, o0, none⟩ = some (.int .i64 xa) := kc0
  obtain ⟨b1, o1, ea1, kc1⟩ := HN2.out.ro.get (k := 1) (by simp) (x := xb) rfl
  cases ea1
  obtain ⟨T0, hT0⟩ : ∃ S, S = ofL (showE e) := ⟨_, rfl⟩
  have zt0 : T0.size ≤ 1000000 := by rw [hT0, ofL_size]; exact HL0.out
  have HS_0 := Lib.hid hT0
  have CH0 : Hid (∀ w', Keeps (fun _ => False) w2 w' → Calls Tryd.prog 21 #[.agg #[.slice (some ⟨b, off, none⟩) m c, .slice A' k c'], .int .i64 xa] w' fun r w'' => r = .returned (.string T0) ∧ Keeps (fun _ => False) w2 w'') := Lib.hid (fun w' q => by
    rw [HS_0.out]
    exact (HC0.out xa w' (HW.out.keep (K2.out.trans q (fun _ _ h => h))) (HT2.out.keep q) HV0.out).mono fun r w'' ⟨h1, h2⟩ => ⟨h1, q.trans h2 (fun _ _ h => h)⟩)
  obtain ⟨T1, hT1⟩ : ∃ S, S = ofL (showK bb) := ⟨_, rfl⟩
  have zt1 : T1.size ≤ 1000000 := by rw [hT1, ofL_size]; exact HL1.out
  have HS_1 := Lib.hid hT1
  have CH1 : Hid (∀ w', Keeps (fun _ => False) w2 w' → Calls Tryd.prog 41 #[.agg #[.slice (some ⟨b, off, none⟩) m c, .slice A' k c'], .int .i64 xb] w' fun r w'' => r = .returned (.string T1) ∧ Keeps (fun _ => False) w2 w'') := Lib.hid (fun w' q => by
    rw [HS_1.out]
    exact (HC1.out xb w' (HW.out.keep (K2.out.trans q (fun _ _ h => h))) (HT2.out.keep q) HV1.out).mono fun r w'' ⟨h1, h2⟩ => ⟨h1, q.trans h2 (fun _ _ h => h)⟩)
  have q0 : ¬ 9223372036854775807 < 3 + T0.size := by omega
  have q1 : ¬ 9223372036854775807 < 3 + T0.size + T1.size := by omega
  have HM2 : Hid (({ data := #[105, 102, 32] } : ByteArray) ++ T0 ++ T1 = ofL (showS (.ifs e bb))) := Lib.hid (of_list (by rw [HS_0.out, HS_1.out]; unfold showS; simp [bap_list, ofL_list, showK]; done))
  have SK : Hid (∀ w', Keeps (fun _ => False) w2 w' → (w'.cell? ⟨P1, 0, none⟩ = some ((.slice (some ⟨b, off, none⟩) m c)) ∧ w'.cell? ⟨P1, 1, none⟩ = some ((.slice A' k c')) ∧ w'.cell? ⟨P2, 4, none⟩ = some (.slice (some ⟨b0, o0, none⟩) 2 cc) ∧ w'.cell? ⟨b0, o0, none⟩ = some (.int .i64 xa) ∧ w'.cell? ⟨b0, (o0 + 1), none⟩ = some (.int .i64 xb)) ∧ Keeps (fun _ => False) w2 w') := Lib.hid (fun w' q => ⟨⟨(q.cell (cell_ltk x0) (fun h => h)).trans x0, (q.cell (cell_ltk x1) (fun h => h)).trans x1, (q.cell (cell_ltk y4) (fun h => h)).trans y4, (q.cell (cell_ltk kc0) (fun h => h)).trans kc0, (q.cell (cell_ltk kc1) (fun h => h)).trans kc1⟩, q⟩)
  clear hT0 zt0 hT1 zt1
  go_upto_region 19 with fail
  go_region_held3 (fun w' => (w'.cell? ⟨P1, 0, none⟩ = some ((.slice (some ⟨b, off, none⟩) m c)) ∧ w'.cell? ⟨P1, 1, none⟩ = some ((.slice A' k c')) ∧ w'.cell? ⟨P2, 4, none⟩ = some (.slice (some ⟨b0, o0, none⟩) 2 cc) ∧ w'.cell? ⟨b0, o0, none⟩ = some (.int .i64 xa) ∧ w'.cell? ⟨b0, (o0 + 1), none⟩ = some (.int .i64 xb)) ∧ Keeps (fun _ => False) w2 w') (first | exact SK.out _ (Keeps.refl _ _) | exact SK.out _ (by assumption) | exact SK.out _ ((Keeps.refl _ _).drew) | exact SK.out _ (Keeps.drew (by assumption))) (first | (go_at_call 21; first | (with_reducible refine (CH0.out _ (by first | assumption | exact (Keeps.refl _ _).drew | exact Keeps.drew (by assumption) | exact Keeps.refl _ _)).mono ?_; rintro r w4 ⟨rfl, k4⟩)) | (go_at_call 41; first | (with_reducible refine (CH1.out _ (by first | assumption | exact (Keeps.refl _ _).drew | exact Keeps.drew (by assumption) | exact Keeps.refl _ _)).mono ?_; rintro r w4 ⟨rfl, k4⟩)))
  all_goals go_wp2_with fail
  all_goals go_ret
  all_goals exact ⟨by (rw [HM2.out]; first | done | rfl), K2.out.trans (by first | assumption | exact Keeps.drew (by assumption)) (fun _ _ h => h)⟩
end Go.Proofs.YtgelggdgbmldiaaDoor

namespace Go.Proofs.YtgelggdgbmldiaaDoor
open Go Go.RowKit Go.Shelf
set_option linter.unusedVariables false
set_option linter.unusedSimpArgs false
set_option maxRecDepth 100000 in
set_option maxHeartbeats 16000000 in
theorem rk_any (Q : List UInt8 → Prop) (nd : List Nd) (fs : List Fnc) (A A' : Option Addr) (m k c c' : Nat) (hm : m = nd.length) (bb : Bl) (hlen : (showB bb).length ≤ 900000) (hcs : ∀ s ∈ blL bb, RSC Q nd fs A A' m k c c' s) : RKC Q nd fs A A' m k c c' bb := by
  have HL := Lib.hid hlen
  have HC := Lib.hid hcs
  clear hlen hcs
  intro i w hw hT hR
  obtain ⟨ys, ha, hb⟩ := hR
  obtain ⟨j, b, off, ln, a, cc, rfl, hj, rfl, hn⟩ := hT.node ha
  rw [← hm] at hj
  have hjI : (j : Int) < (m : Int) := by omega
  have hj0 : (0 : Int) ≤ (j : Int) := by omega
  obtain ⟨n, hn2⟩ : ∃ n, n = ys.length := ⟨_, rfl⟩
  obtain ⟨l, hl⟩ : ∃ l, l = blL bb := ⟨_, rfl⟩
  have hfl := showB_flat bb
  obtain ⟨hxl, hxx⟩ := repB_at bb ys hb
  rw [← hl] at hxl hxx hfl HC
  have hn6 : n ≤ 900000 := by
    rw [hn2, hxl]
    have h1 := HL.out
    rw [hfl] at h1
    have : ∀ l : List Stm, l.length ≤ (l.flatMap showS).length := by
      intro l
      induction l with
      | nil => exact Nat.zero_le _
      | cons s l ih =>
        show l.length + 1 ≤ (showS s ++ l.flatMap showS).length
        have hs : 1 ≤ (showS s).length := by
          cases s <;> (unfold showS; simp <;> omega)
        rw [List.length_append]
        omega
    exact Nat.le_trans (this l) h1
  have HFL := Lib.hid hfl
  have HNL : Hid (n = l.length) := Lib.hid (by rw [hn2, hxl])
  have HNX := Lib.hid hn2
  have HXX := Lib.hid hxx
  clear hb hxl hxx hn2 hl hfl
  have HT := Lib.hid hT
  have HW := Lib.hid hw
  have HN := Lib.hid hn
  have HM := Lib.hid hm
  clear hT hw ha hj hm
  go_enter Tryd.func41, Tryd.ntmps41
  go_upto_region 1 with fail
  have ka := Keeps.one w (.cells #[.slice (some ⟨b, off, none⟩) m c, .slice A' k c'] 27)
  obtain ⟨P1, hP1⟩ : ∃ X, X = w.heap.size := ⟨_, rfl⟩
  obtain ⟨w1, hw1⟩ : ∃ w1, w1 = w.alloc (.cells #[.slice (some ⟨b, off, none⟩) m c, .slice A' k c'] 27) := ⟨_, rfl⟩
  have HX1 : Hid (Loc w1 (fun _ => False) P1 [.slice (some ⟨b, off, none⟩) m c, .slice A' k c']) := Lib.hid (by rw [hw1, hP1]; exact Loc.new (fun h => h) [.slice (some ⟨b, off, none⟩) m c, .slice A' k c'] 27)
  have HN1 := Lib.hid (HN.out.keep (hw1 ▸ ka))
  rw [← hP1]
  rw [← hw1] at ka ⊢
  have K1 := Lib.hid ka
  have HT1 := Lib.hid (HT.out.keep ka)
  clear ka hw1 hP1 HT HN
  have x0 := HX1.out.cells 0 _ rfl
  have x1 := HX1.out.cells 1 _ rfl
  have c0 := HN1.out.c0
  have c1 := HN1.out.c1
  have c2 := HN1.out.c2
  have c3 := HN1.out.c3
  have c4 := HN1.out.c4
  rw [← HNX.out] at c4
  go_upto_region 4 with fail
  clear x0 x1 c0 c1 c2 c3 c4
  go_loopg [5, 7] (n + 1) (fun q s5 s7 wr => ∃ (i : Nat) (g : ByteArray), s5 = .string g ∧ s7 = .int .i64 i ∧ i + q = n + 1 ∧ i ≤ n ∧ g.data.toList = [123, 10] ++ (l.take i).flatMap showS ∧ Keeps (fun _ => False) w1 wr)
  case atStart => exact ⟨0, _, rfl, rfl, by omega, by omega, rfl, Keeps.refl _ _⟩
  case round =>
    obtain ⟨i, g, rfl, rfl, hiq, hin1, hg, kr⟩ := hrel
    have KR := Lib.hid kr
    have HIQ := Lib.hid hiq
    have HG := Lib.hid hg
    have hgs : g.size ≤ 900010 := by
      rw [← len_size, hg, List.length_append]
      have h1 := flat_le l i
      have h3 := HL.out
      rw [HFL.out] at h3
      have h4 : ([123, 10] : List UInt8).length = 2 := rfl
      omega
    have x0 := (HX1.out.keeps kr).cells 0 _ rfl
    have x1 := (HX1.out.keeps kr).cells 1 _ rfl
    have HTr := Lib.hid (HT1.out.keep kr)
    have HNr := Lib.hid (HN1.out.keep kr)
    clear hiq hg kr
    by_cases hin : i < n
    · have hI : (i : Int) < (n : Int) := by omega
      have hdI : decide ((i : Int) < (n : Int)) = true := decide_eq_true hI
      have hi0 : (0 : Int) ≤ (i : Int) := by omega
      have wi : IntKind.i64.wrap ((i : Int) + 1) = (i : Int) + 1 := IntWalk.i64_in _ (by omega)
      have HIN := Lib.hid hin
      have hil : i < l.length := by rw [← HNL.out]; exact hin
      obtain ⟨x, hx1, hx2⟩ := HXX.out i hil
      obtain ⟨b0, o0, rfl, kc⟩ := HNr.out.ro.get (k := i) (by rw [← HNX.out]; exact hin) hx1
      have hnx := flat_take hil
      have hle := flat_le l (i + 1)
      obtain ⟨e, he⟩ : ∃ e, e = l[i] := ⟨_, rfl⟩
      rw [← he] at hx2 hnx
      have hem : e ∈ l := by rw [he]; exact List.getElem_mem _
      have HXE := Lib.hid hx2
      obtain ⟨S2, hS2⟩ : ∃ S, S = ofL (showS e) := ⟨_, rfl⟩
      have HS2 := Lib.hid hS2
      have z2 : S2.size ≤ 900000 := by
        rw [hS2, ofL_size]
        have h3 := HL.out
        rw [HFL.out] at h3
        rw [hnx, List.length_append] at hle
        omega
      have CH : Hid (∀ w', Keeps (fun _ => False) wr w' → Calls Tryd.prog 69 #[.agg #[.slice (some ⟨b, off, none⟩) m c, .slice A' k c'], .int .i64 x] w' fun r w'' => r = .returned (.string S2) ∧ Keeps (fun _ => False) wr w'') := Lib.hid (fun w' q => by
        rw [HS2.out]
        exact (HC.out e hem x w' (HW.out.keep ((K1.out.trans KR.out (fun _ _ h => h)).trans q (fun _ _ h => h))) (HTr.out.keep q) HXE.out).mono fun r w'' ⟨h1, h2⟩ => ⟨h1, q.trans h2 (fun _ _ h => h)⟩)
      have SK : Hid (∀ w', Keeps (fun _ => False) wr w' → (w'.cell? ⟨P1, 0, none⟩ = some ((.slice (some ⟨b, off, none⟩) m c)) ∧ w'.cell? ⟨P1, 1, none⟩ = some ((.slice A' k c')) ∧ w'.cell? ⟨b0, (o0 + i), none⟩ = some (.int .i64 x)) ∧ Keeps (fun _ => False) wr w') := Lib.hid (fun w' q => ⟨⟨(q.cell (cell_ltk x0) (fun h => h)).trans x0, (q.cell (cell_ltk x1) (fun h => h)).trans x1, (q.cell (cell_ltk kc) (fun h => h)).trans kc⟩, q⟩)
      have q2 : ¬ 9223372036854775807 < g.size + S2.size := by omega
      have HM2 : Hid ((g ++ S2).data.toList = [123, 10] ++ (l.take (i + 1)).flatMap showS) := Lib.hid (by rw [bap_list, HG.out, HS2.out, ofL_list, hnx, List.append_assoc])
      clear hnx hle hS2 hx1 hx2 he hem hil hin
      go_upto_region 6 with fail
      go_region_held3 (fun w' => (w'.cell? ⟨P1, 0, none⟩ = some ((.slice (some ⟨b, off, none⟩) m c)) ∧ w'.cell? ⟨P1, 1, none⟩ = some ((.slice A' k c')) ∧ w'.cell? ⟨b0, (o0 + i), none⟩ = some (.int .i64 x)) ∧ Keeps (fun _ => False) wr w') (first | exact SK.out _ (Keeps.refl _ _) | exact SK.out _ (by assumption) | exact SK.out _ ((Keeps.refl _ _).drew) | exact SK.out _ (Keeps.drew (by assumption))) (first | (go_at_call 69; refine (CH.out _ (by first | assumption | exact (Keeps.refl _ _).drew | exact Keeps.drew (by assumption) | exact Keeps.refl _ _)).mono ?_; rintro r w4 ⟨rfl, k4⟩))
      go_wp2_with fail
      go_roundg (gk - 1)
      case measure => go_light; have h1 := HIQ.out; have h2 := HIN.out; omega
      case rel => exact ⟨i + 1, _, rfl, by go_num, by have h1 := HIQ.out; have h2 := HIN.out; go_light; omega, by have h2 := HIN.out; go_light; omega, HM2.out, KR.out.trans (by first | assumption | exact Keeps.drew (by assumption)) (fun _ _ h => h)⟩
    · obtain rfl : n = i := by omega
      have hI : ¬ (n : Int) < (n : Int) := by omega
      have hdI : decide ((n : Int) < (n : Int)) = false := decide_eq_false hI
      have q4 : ¬ 9223372036854775807 < g.size + 2 := by omega
      have HM2 : Hid (g ++ { data := #[125, 10] } = ofL (showK bb)) := Lib.hid (of_list (by
        rw [bap_list, HG.out, HNL.out, List.take_length]
        show ([123, 10] ++ l.flatMap showS) ++ [125, 10] = [123, 10] ++ showB bb ++ [125, 10]
        rw [HFL.out]))
      clear hin hin1 hgs
      go_wp2_with fail
      go_ret
      exact ⟨by (rw [HM2.out]; first | done | rfl), K1.out.trans KR.out (fun _ _ h => h)⟩
end Go.Proofs.YtgelggdgbmldiaaDoor
