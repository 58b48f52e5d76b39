/-
  Layer 3: the document's text of an expression. Written by an AI agent.
  Layer 3: the document's text of an expression. Written by an AI agent.
  Layer 3: the document's text of an expression. Written by an AI agent.
-/
import Derived.Lib.Bytealg
import Derived.Test.YtgelggdgbmldiaaDoorChecked
import Derived.Laws.OwnMore
import Derived.Laws.AppendOwnNone
import Derived.OwnWalk
import Derived.Lib.AppendZerosOnto
import Derived.Below
import Derived.Stop.Walk2
import Derived.WalkKit
import Derived.WalkLawsBesides
import Derived.WalkSpells
import Derived.Outline
import Derived.BigQuiet
import Derived.Deep.CutBlock
import Derived.Deep.CutRange
import Derived.Deep.DeepCutAuto
import Derived.Deep.RegionHeld3
import Derived.Deep.RegionLaw
import Derived.Deep.RegionWith
import Derived.StillTailTactics
import Derived.RegionTactic
import Derived.Laws.StructEq
import Derived.Lib.Hide
import Derived.Shelf.Abstract
import Derived.Shelf.Lay
import Derived.Ground.NamesProg
import Derived.Shelf.Strings.Prefix
import Derived.Shelf.Small.Strs
import Derived.Shelf.Strings.Count
import Derived.Shelf.Strconv.ErrVarParseInt
import Derived.WalkMore
import Derived.Scope
import Derived.Shelf.Slices.Turned
import Derived.Lib.SlicesS
import Derived.Deep.RegionHeld
import Derived.Deep.LoopGhost
import Derived.Deep.Light
import Derived.Shelf.Strconv.Itoa3
import Derived.Lib.LaidTab
import Derived.Lib.ItoaLen
import Derived.Test.YtgelggdgbmldiaaDoorMcaa
import Derived.Test.YtgelggdgbmldiaaDoorMcab
import Derived.Test.YtgelggdgbmldiaaDoorMcac
import Derived.Test.YtgelggdgbmldiaaDoorMcad
import Derived.Test.YtgelggdgbmldiaaDoorMcae
import Derived.Test.YtgelggdgbmldiaaDoorMcaf
import Derived.Test.YtgelggdgbmldiaaDoorMcag
import Derived.Test.YtgelggdgbmldiaaDoorMcah
import Derived.Test.YtgelggdgbmldiaaDoorMcai
import Derived.Test.YtgelggdgbmldiaaDoorMeaa
import Derived.Test.YtgelggdgbmldiaaDoorMeab
import Derived.Test.YtgelggdgbmldiaaDoorMeac
import Derived.Test.YtgelggdgbmldiaaDoorMead
import Derived.Test.YtgelggdgbmldiaaDoorMeae
import Derived.Test.YtgelggdgbmldiaaDoorMeaf
import Derived.Test.YtgelggdgbmldiaaDoorMcaq
namespace Go.Proofs.YtgelggdgbmldiaaDoor
open Go Go.RowKit Go.Shelf
set_option linter.unusedVariables false
set_option linter.unusedSimpArgs false
set_option maxRecDepth 100000 in
set_option maxHeartbeats 16000000 in
theorem rs_ifelse (Q : List UInt8 → Prop) (nd : List Nd) (fs : List Fnc) (A A' : Option Addr) (m k c c' : Nat) (hm : m = nd.length) (e : Ex) (bb b2 : Bl) (hc0 : RXC Q nd fs A A' m k c c' e) (hl0 : (showE e).length ≤ 1000000) (hc1 : RKC Q nd fs A A' m k c c' bb) (hl1 : (showK bb).length ≤ 1000000) (hc2 : RKC Q nd fs A A' m k c c' b2) (hl2 : (showK b2).length ≤ 1000000) : RSC Q nd fs A A' m k c c' (.ifelse e bb b2) := by
  have HC0 := Lib.hid hc0
  have HL0 := Lib.hid hl0
  have HC1 := Lib.hid hc1
  have HL1 := Lib.hid hl1
  have HC2 := Lib.hid hc2
  have HL2 := Lib.hid hl2
  clear hc0 hl0
  clear hc1 hl1
  clear hc2 hl2
  intro i w hw hT hR
  unfold RepS at hR
  obtain ⟨xa, xb, ys, xc, zs, ha, hx0, hb1, hb2, hb3, hb4⟩ := hR
  obtain ⟨j, b, off, ln, a, cc, rfl, hj, rfl, hn⟩ := hT.node ha
  rw [← hm] at hj
  have hjI : (j : Int) < (m : Int) := by omega
  have hj0 : (0 : Int) ≤ (j : Int) := by omega
  have hx1 : ∃ ys, At nd xb 18 0 [] ys ∧ RepB Q nd bb ys := ⟨ys, hb1, hb2⟩
  have hx2 : ∃ ys, At nd xc 18 0 [] ys ∧ RepB Q nd b2 ys := ⟨zs, hb3, hb4⟩
  clear hb1 hb2 hb3 hb4
  have HV0 := Lib.hid hx0
  clear hx0
  have HV1 := Lib.hid hx1
  clear hx1
  have HV2 := Lib.hid hx2
  clear hx2
  have HT := Lib.hid hT
  have HW := Lib.hid hw
  have HN := Lib.hid hn
  have HM := Lib.hid hm
  clear hT hw ha hj hm
  go_enter Tryd.func69, Tryd.ntmps69
  go_upto_region 1 with fail
  have ka := Keeps.one w (.cells #[.slice (some ⟨b, off, none⟩) m c, .slice A' k c'] 27)
  obtain ⟨P1, hP1⟩ : ∃ X, X = w.heap.size := ⟨_, rfl⟩
  obtain ⟨w1, hw1⟩ : ∃ w1, w1 = w.alloc (.cells #[.slice (some ⟨b, off, none⟩) m c, .slice A' k c'] 27) := ⟨_, rfl⟩
  have HX1 : Hid (Loc w1 (fun _ => False) P1 [.slice (some ⟨b, off, none⟩) m c, .slice A' k c']) := Lib.hid (by rw [hw1, hP1]; exact Loc.new (fun h => h) [.slice (some ⟨b, off, none⟩) m c, .slice A' k c'] 27)
  have HN1 := Lib.hid (HN.out.keep (hw1 ▸ ka))
  rw [← hP1]
  rw [← hw1] at ka ⊢
  have K1 := Lib.hid ka
  have HT1 := Lib.hid (HT.out.keep ka)
  clear ka hw1 hP1 HT HN
  have x0 := HX1.out.cells 0 _ rfl
  have x1 := HX1.out.cells 1 _ rfl
  have c0 := HN1.out.c0
  have c1 := HN1.out.c1
  have c2 := HN1.out.c2
  have c3 := HN1.out.c3
  have c4 : w1.cell? ⟨b, off + j * 5 + 4, none⟩ = some (.slice a 3 cc) := HN1.out.c4
  go_upto_region 2 with fail
  have ka := Keeps.one w1 (.cells #[.int .i64 15, .int .i64 ln, .int .i64 0, .string (ofL []), .slice a 3 cc] 33)
  obtain ⟨P2, hP2⟩ : ∃ X, X = w1.heap.size := ⟨_, rfl⟩
  obtain ⟨w2, hw2⟩ : ∃ w2, w2 = w1.alloc (.cells #[.int .i64 15, .int .i64 ln, .int .i64 0, .string (ofL []), .slice a 3 cc] 33) := ⟨_, rfl⟩
  have HY2 : Hid (Loc w2 (fun _ => False) P2 [.int .i64 15, .int .i64 ln, .int .i64 0, .string (ofL []), .slice a 3 cc]) := Lib.hid (by rw [hw2, hP2]; exact Loc.new (fun h => h) [.int .i64 15, .int .i64 ln, .int .i64 0, .string (ofL []), .slice a 3 cc] 33)
  rw [← hP2]
  rw [← hw2] at ka ⊢
  have HX2 := Lib.hid (HX1.out.keeps ka)
  have HT2 := Lib.hid (HT1.out.keep ka)
  have HN2 := Lib.hid (HN1.out.keep ka)
  have K2 := Lib.hid (K1.out.trans ka (fun _ _ h => h))
  clear ka hw2 hP2 x0 x1 c0 c1 c2 c3 c4 HX1 HT1 HN1 K1
  have x0 := HX2.out.cells 0 _ rfl
  have x1 := HX2.out.cells 1 _ rfl
  have y0 := HY2.out.cells 0 _ rfl
  have y2 := HY2.out.cells 2 _ rfl
  have y3 := HY2.out.cells 3 _ rfl
  have y4 := HY2.out.cells 4 _ rfl
  obtain ⟨b0, o0, rfl, kc0⟩ := HN2.out.ro.get (k := 0) (by simp) (x := xa) rfl
  have kc0 : w2.cell? ⟨b0, o0, none⟩ = some (.int .i64 xa) := kc0
  obtain ⟨b1, o1, ea1, kc1⟩ := HN2.out.ro.get (k := 1) (by simp) (x := xb) rfl
  cases ea1
  obtain ⟨b2, o2, ea2, kc2⟩ := HN2.out.ro.get (k := 2) (by simp) (x := xc) rfl
  cases ea2
  obtain ⟨T0, hT0⟩ : ∃ S, S = ofL (showE e) := ⟨_, rfl⟩
  have zt0 : T0.size ≤ 1000000 := by rw [hT0, ofL_size]; exact HL0.out
  have HS_0 := Lib.hid hT0
  have CH0 : Hid (∀ w', Keeps (fun _ => False) w2 w' → Calls Tryd.prog 21 #[.agg #[.slice (some ⟨b, off, none⟩) m c, .slice A' k c'], .int .i64 xa] w' fun r w'' => r = .returned (.string T0) ∧ Keeps (fun _ => False) w2 w'') := Lib.hid (fun w' q => by
    rw [HS_0.out]
    exact (HC0.out xa w' (HW.out.keep (K2.out.trans q (fun _ _ h => h))) (HT2.out.keep q) HV0.out).mono fun r w'' ⟨h1, h2⟩ => ⟨h1, q.trans h2 (fun _ _ h => h)⟩)
  obtain ⟨T1, hT1⟩ : ∃ S, S = ofL (showK bb) := ⟨_, rfl⟩
  have zt1 : T1.size ≤ 1000000 := by rw [hT1, ofL_size]; exact HL1.out
  have HS_1 := Lib.hid hT1
  have CH1 : Hid (∀ w', Keeps (fun _ => False) w2 w' → Calls Tryd.prog 41 #[.agg #[.slice (some ⟨b, off, none⟩) m c, .slice A' k c'], .int .i64 xb] w' fun r w'' => r = .returned (.string T1) ∧ Keeps (fun _ => False) w2 w'') := Lib.hid (fun w' q => by
    rw [HS_1.out]
    exact (HC1.out xb w' (HW.out.keep (K2.out.trans q (fun _ _ h => h))) (HT2.out.keep q) HV1.out).mono fun r w'' ⟨h1, h2⟩ => ⟨h1, q.trans h2 (fun _ _ h => h)⟩)
  obtain ⟨T2, hT2⟩ : ∃ S, S = ofL (showK b2) := ⟨_, rfl⟩
  have zt2 : T2.size ≤ 1000000 := by rw [hT2, ofL_size]; exact HL2.out
  have HS_2 := Lib.hid hT2
  have CH2 : Hid (∀ w', Keeps (fun _ => False) w2 w' → Calls Tryd.prog 41 #[.agg #[.slice (some ⟨b, off, none⟩) m c, .slice A' k c'], .int .i64 xc] w' fun r w'' => r = .returned (.string T2) ∧ Keeps (fun _ => False) w2 w'') := Lib.hid (fun w' q => by
    rw [HS_2.out]
    exact (HC2.out xc w' (HW.out.keep (K2.out.trans q (fun _ _ h => h))) (HT2.out.keep q) HV2.out).mono fun r w'' ⟨h1, h2⟩ => ⟨h1, q.trans h2 (fun _ _ h => h)⟩)
  have q0 : ¬ 9223372036854775807 < 3 + T0.size := by omega
  have q1 : ¬ 9223372036854775807 < 3 + T0.size + T1.size := by omega
  have q2 : ¬ 9223372036854775807 < 3 + T0.size + T1.size + 4 := by omega
  have q3 : ¬ 9223372036854775807 < 3 + T0.size + T1.size + 4 + T2.size := by omega
  have HM2 : Hid (({ data := #[105, 102, 32] } : ByteArray) ++ T0 ++ T1 ++ { data := #[101, 108, 115, 101] } ++ T2 = ofL (showS (.ifelse e bb b2))) := Lib.hid (of_list (by rw [HS_0.out, HS_1.out, HS_2.out]; unfold showS; simp [bap_list, ofL_list, showK]; done))
  have SK : Hid (∀ w', Keeps (fun _ => False) w2 w' → (w'.cell? ⟨P1, 0, none⟩ = some ((.slice (some ⟨b, off, none⟩) m c)) ∧ w'.cell? ⟨P1, 1, none⟩ = some ((.slice A' k c')) ∧ w'.cell? ⟨P2, 4, none⟩ = some (.slice (some ⟨b0, o0, none⟩) 3 cc) ∧ w'.cell? ⟨b0, o0, none⟩ = some (.int .i64 xa) ∧ w'.cell? ⟨b0, (o0 + 1), none⟩ = some (.int .i64 xb) ∧ w'.cell? ⟨b0, (o0 + 2), none⟩ = some (.int .i64 xc)) ∧ Keeps (fun _ => False) w2 w') := Lib.hid (fun w' q => ⟨⟨(q.cell (cell_ltk x0) (fun h => h)).trans x0, (q.cell (cell_ltk x1) (fun h => h)).trans x1, (q.cell (cell_ltk y4) (fun h => h)).trans y4, (q.cell (cell_ltk kc0) (fun h => h)).trans kc0, (q.cell (cell_ltk kc1) (fun h => h)).trans kc1, (q.cell (cell_ltk kc2) (fun h => h)).trans kc2⟩, q⟩)
  clear hT0 zt0 hT1 zt1 hT2 zt2
  go_upto_region 19 with fail
  go_region_held3 (fun w' => (w'.cell? ⟨P1, 0, none⟩ = some ((.slice (some ⟨b, off, none⟩) m c)) ∧ w'.cell? ⟨P1, 1, none⟩ = some ((.slice A' k c')) ∧ w'.cell? ⟨P2, 4, none⟩ = some (.slice (some ⟨b0, o0, none⟩) 3 cc) ∧ w'.cell? ⟨b0, o0, none⟩ = some (.int .i64 xa) ∧ w'.cell? ⟨b0, (o0 + 1), none⟩ = some (.int .i64 xb) ∧ w'.cell? ⟨b0, (o0 + 2), none⟩ = some (.int .i64 xc)) ∧ Keeps (fun _ => False) w2 w') (first | exact SK.out _ (Keeps.refl _ _) | exact SK.out _ (by assumption) | exact SK.out _ ((Keeps.refl _ _).drew) | exact SK.out _ (Keeps.drew (by assumption))) (first | (go_at_call 21; first | (with_reducible refine (CH0.out _ (by first | assumption | exact (Keeps.refl _ _).drew | exact Keeps.drew (by assumption) | exact Keeps.refl _ _)).mono ?_; rintro r w4 ⟨rfl, k4⟩)) | (go_at_call 41; first | (with_reducible refine (CH1.out _ (by first | assumption | exact (Keeps.refl _ _).drew | exact Keeps.drew (by assumption) | exact Keeps.refl _ _)).mono ?_; rintro r w4 ⟨rfl, k4⟩) | (with_reducible refine (CH2.out _ (by first | assumption | exact (Keeps.refl _ _).drew | exact Keeps.drew (by assumption) | exact Keeps.refl _ _)).mono ?_; rintro r w4 ⟨rfl, k4⟩)))
  all_goals go_upto_region 21 with fail
  all_goals go_region_held3 (fun w' => (w'.cell? ⟨P1, 0, none⟩ = some ((.slice (some ⟨b, off, none⟩) m c)) ∧ w'.cell? ⟨P1, 1, none⟩ = some ((.slice A' k c')) ∧ w'.cell? ⟨P2, 4, none⟩ = some (.slice (some ⟨b0, o0, none⟩) 3 cc) ∧ w'.cell? ⟨b0, o0, none⟩ = some (.int .i64 xa) ∧ w'.cell? ⟨b0, (o0 + 1), none⟩ = some (.int .i64 xb) ∧ w'.cell? ⟨b0, (o0 + 2), none⟩ = some (.int .i64 xc)) ∧ Keeps (fun _ => False) w2 w') (first | exact SK.out _ (Keeps.refl _ _) | exact SK.out _ (by assumption) | exact SK.out _ ((Keeps.refl _ _).drew) | exact SK.out _ (Keeps.drew (by assumption))) (first | (go_at_call 21; first | (with_reducible refine (CH0.out _ (by first | assumption | exact (Keeps.refl _ _).drew | exact Keeps.drew (by assumption) | exact Keeps.refl _ _)).mono ?_; rintro r w4 ⟨rfl, k4⟩)) | (go_at_call 41; first | (with_reducible refine (CH1.out _ (by first | assumption | exact (Keeps.refl _ _).drew | exact Keeps.drew (by assumption) | exact Keeps.refl _ _)).mono ?_; rintro r w4 ⟨rfl, k4⟩) | (with_reducible refine (CH2.out _ (by first | assumption | exact (Keeps.refl _ _).drew | exact Keeps.drew (by assumption) | exact Keeps.refl _ _)).mono ?_; rintro r w4 ⟨rfl, k4⟩)))
  all_goals go_wp2_with fail
  all_goals go_ret
  all_goals exact ⟨by (rw [HM2.out]; first | done | rfl), K2.out.trans (by first | assumption | exact Keeps.drew (by assumption)) (fun _ _ h => h)⟩
end Go.Proofs.YtgelggdgbmldiaaDoor

namespace Go.Proofs.YtgelggdgbmldiaaDoor
open Go Go.RowKit Go.Shelf
set_option linter.unusedVariables false
set_option linter.unusedSimpArgs false
section
variable (w : World)
set_option maxHeartbeats 4000000 in
theorem dword_0 : Calls Tryd.prog 40 #[.int .i64 0] w fun r w' => r = .returned (.string (ofL (wordL 0))) ∧ Keeps (fun _ => False) w w' := by
  go_enter Tryd.func40, Tryd.ntmps40
  have ka := Keeps.one w (.cells #[.string { data := #[] }, .string { data := #[105, 110, 116] }, .string { data := #[98, 111, 111, 108] }, .string { data := #[116, 101, 120, 116] }, .string { data := #[108, 105, 115, 116] }] 9)
  go_wp2_with fail
  all_goals go_ret
  all_goals exact ⟨rfl, ka⟩
set_option maxHeartbeats 4000000 in
theorem dword_1 : Calls Tryd.prog 40 #[.int .i64 1] w fun r w' => r = .returned (.string (ofL (wordL 1))) ∧ Keeps (fun _ => False) w w' := by
  go_enter Tryd.func40, Tryd.ntmps40
  have ka := Keeps.one w (.cells #[.string { data := #[] }, .string { data := #[105, 110, 116] }, .string { data := #[98, 111, 111, 108] }, .string { data := #[116, 101, 120, 116] }, .string { data := #[108, 105, 115, 116] }] 9)
  go_wp2_with fail
  all_goals go_ret
  all_goals exact ⟨rfl, ka⟩
set_option maxHeartbeats 4000000 in
theorem dword_2 : Calls Tryd.prog 40 #[.int .i64 2] w fun r w' => r = .returned (.string (ofL (wordL 2))) ∧ Keeps (fun _ => False) w w' := by
  go_enter Tryd.func40, Tryd.ntmps40
  have ka := Keeps.one w (.cells #[.string { data := #[] }, .string { data := #[105, 110, 116] }, .string { data := #[98, 111, 111, 108] }, .string { data := #[116, 101, 120, 116] }, .string { data := #[108, 105, 115, 116] }] 9)
  go_wp2_with fail
  all_goals go_ret
  all_goals exact ⟨rfl, ka⟩
set_option maxHeartbeats 4000000 in
theorem dword_3 : Calls Tryd.prog 40 #[.int .i64 3] w fun r w' => r = .returned (.string (ofL (wordL 3))) ∧ Keeps (fun _ => False) w w' := by
  go_enter Tryd.func40, Tryd.ntmps40
  have ka := Keeps.one w (.cells #[.string { data := #[] }, .string { data := #[105, 110, 116] }, .string { data := #[98, 111, 111, 108] }, .string { data := #[116, 101, 120, 116] }, .string { data := #[108, 105, 115, 116] }] 9)
  go_wp2_with fail
  all_goals go_ret
  all_goals exact ⟨rfl, ka⟩
set_option maxHeartbeats 4000000 in
theorem dword_4 : Calls Tryd.prog 40 #[.int .i64 4] w fun r w' => r = .returned (.string (ofL (wordL 4))) ∧ Keeps (fun _ => False) w w' := by
  go_enter Tryd.func40, Tryd.ntmps40
  have ka := Keeps.one w (.cells #[.string { data := #[] }, .string { data := #[105, 110, 116] }, .string { data := #[98, 111, 111, 108] }, .string { data := #[116, 101, 120, 116] }, .string { data := #[108, 105, 115, 116] }] 9)
  go_wp2_with fail
  all_goals go_ret
  all_goals exact ⟨rfl, ka⟩
end
theorem dword_any (t : Int) (h0 : 0 ≤ t) (h4 : t ≤ 4) (w : World) : Calls Tryd.prog 40 #[.int .i64 t] w fun r w' => r = .returned (.string (ofL (wordL t))) ∧ Keeps (fun _ => False) w w' := by
  obtain rfl | rfl | rfl | rfl | rfl : t = 0 ∨ t = 1 ∨ t = 2 ∨ t = 3 ∨ t = 4 := by omega
  · exact dword_0 w
  · exact dword_1 w
  · exact dword_2 w
  · exact dword_3 w
  · exact dword_4 w
end Go.Proofs.YtgelggdgbmldiaaDoor

namespace Go.Proofs.YtgelggdgbmldiaaDoor
open Go Go.RowKit Go.Shelf
set_option linter.unusedVariables false
set_option linter.unusedSimpArgs false
set_option maxRecDepth 100000 in
set_option maxHeartbeats 32000000 in
theorem dtext_any (Q : List UInt8 → Prop) (nd : List Nd) (fs : List Fnc) (A A' : Option Addr) (m k c c' : Nat) (hm : m = nd.length) (hk : k = fs.length) (ps : List (Fnc × Bl)) (hfs : fs = ps.map Prod.fst) (hok : ∀ p ∈ ps, FnOK Q p.1) (hrep : ∀ p ∈ ps, ∃ xs, At nd p.1.body 18 0 [] xs ∧ RepB Q nd p.2 xs) (hB : (textT ps).length ≤ 100000000) (hcs : ∀ p ∈ ps, RKC Q nd fs A A' m k c c' p.2) (hk6 : k ≤ 1000) (hp3 : ∀ p ∈ ps, p.1.ps.length ≤ 1000) (w : World) (hw : ShW w) (hT : TreeR 0 w A A' nd fs) :
    Calls Tryd.prog 23 #[.agg #[.slice A m c, .slice A' k c']] w fun r w' => r = .returned (.string (ofL (textT ps))) ∧ Keeps (fun _ => False) w w' := by
  have HT := Lib.hid hT
  have HMM := Lib.hid hm
  have HP3 := Lib.hid hp3
  have HW := Lib.hid hw
  have HK := Lib.hid hk
  have HFS := Lib.hid hfs
  have HOK := Lib.hid hok
  have HREP := Lib.hid hrep
  have HBB := Lib.hid hB
  have HCS := Lib.hid hcs
  clear hT hw hk hfs hok hrep hB hcs hm hp3
  go_enter Tryd.func23, Tryd.ntmps23
  go_upto_region 1 with fail
  have ka := Keeps.one w (.cells #[.slice A m c, .slice A' k c'] 27)
  obtain ⟨P1, hP⟩ : ∃ X, X = w.heap.size := ⟨_, rfl⟩
  obtain ⟨w1, hw1⟩ : ∃ w1, w1 = w.alloc (.cells #[.slice A m c, .slice A' k c'] 27) := ⟨_, rfl⟩
  have HX1 : Hid (Loc w1 (fun _ => False) P1 [.slice A m c, .slice A' k c']) := Lib.hid (by rw [hw1, hP]; exact Loc.new (fun h => h) [.slice A m c, .slice A' k c'] 27)
  rw [← hP]
  rw [← hw1] at ka ⊢
  have K1 := Lib.hid ka
  have HT1 := Lib.hid (HT.out.keep ka)
  clear ka hw1 hP HT
  go_upto_region 3 with fail
  go_loopg [3, 4, 5, 6] (k + 1) (fun q s3 s4 s5 s6 wr => ∃ (i : Nat) (g : ByteArray), s3 = .string g ∧ s4 = .int .i64 i ∧ i + q = k + 1 ∧ i ≤ k ∧ g.data.toList = textT (ps.take i) ∧ Keeps (fun _ => False) w1 wr)
  case atStart => exact ⟨0, _, rfl, rfl, by omega, by omega, rfl, Keeps.refl _ _⟩
  case round =>
    obtain ⟨i, g, rfl, rfl, hiq, hin1, hg, kr⟩ := hrel
    have KR := Lib.hid kr
    have HIQ := Lib.hid hiq
    have HG := Lib.hid hg
    have hgs : g.size ≤ 100000000 := by
      rw [← len_size, hg]
      exact Nat.le_trans (textT_le ps i) HBB.out
    have HXr := Lib.hid (HX1.out.keeps kr)
    have x0 := HXr.out.cells 0 _ rfl
    have x1 := HXr.out.cells 1 _ rfl
    have HTr := Lib.hid (HT1.out.keep kr)
    clear hiq hg kr
    obtain ⟨wo, hwo⟩ : ∃ x, x = wr := ⟨_, rfl⟩
    subst hwo
    obtain ⟨g0, hg0⟩ : ∃ g0, g0 = gk := ⟨_, rfl⟩
    subst hg0
    by_cases hin : i < k
    · have hI : (i : Int) < (k : Int) := by omega
      have hdI : decide ((i : Int) < (k : Int)) = true := decide_eq_true hI
      have hi0 : (0 : Int) ≤ (i : Int) := by omega
      have wi : IntKind.i64.wrap ((i : Int) + 1) = (i : Int) + 1 := IntWalk.i64_in _ (by omega)
      have HIN := Lib.hid hin
      have hpl : i < ps.length := by have h1 := HK.out; have h2 := HFS.out; rw [h2, List.length_map] at h1; omega
      have hfl : i < fs.length := by rw [← HK.out]; exact hin
      obtain ⟨bf, of, hA, hcf⟩ := HTr.out.fnAt (by omega)
      obtain ⟨ap, cp, d0, d1, d2, d3, d4, dr⟩ := hcf i hfl
      obtain ⟨p, hp⟩ : ∃ p, p = ps[i] := ⟨_, rfl⟩
      have hpf : fs[i] = p.1 := by rw [hp]; simp only [HFS.out, List.getElem_map]
      have hpm : p ∈ ps := by rw [hp]; exact List.getElem_mem _
      rw [hpf] at d0 d1 d2 d3 d4 dr
      have HN := Lib.hid (textT_next hpl)
      rw [← hp] at HN
      have hle := textT_le ps (i + 1)
      rw [HN.out, List.length_append, ← HG.out, len_size] at hle
      have hle2 := Nat.le_trans hle HBB.out
      clear hle hcf
      obtain ⟨f, bb⟩ := p
      have HP := Lib.hid hpm
      have hOK := HOK.out _ hpm
      have htf : (textF (f, bb)).length = 3 + f.s.length + 1 + (joinX (f.ps.map paramL)).length + 1 + (wordL f.ret).length + (showK bb).length := by
        unfold textF
        simp only [List.length_append]
        rfl
      rw [htf] at hle2
      have HLE := Lib.hid hle2
      obtain ⟨S1, hS1⟩ : ∃ S, S = ofL f.s := ⟨_, rfl⟩
      have z1 : S1.size = f.s.length := by rw [hS1]; exact ofL_size _
      have HS1 := Lib.hid hS1
      have HZ1 := Lib.hid z1
      replace d0 : wo.cell? ⟨bf, of + i * 5, none⟩ = some (.string (ofL f.s)) := d0
      rw [← hS1] at d0
      obtain ⟨np, hnp⟩ : ∃ n, n = f.ps.length := ⟨_, rfl⟩
      replace d2 : wo.cell? ⟨bf, of + i * 5 + 2, none⟩ = some (.slice ap f.ps.length cp) := d2
      rw [← hnp] at d2
      have HNP := Lib.hid hnp
      have HDR := Lib.hid dr
      have HRT := Lib.hid hOK.2.1
      have HPO := Lib.hid hOK.2.2
      have RC : Hid (∀ w', Calls Tryd.prog 40 #[.int .i64 f.ret] w' fun r w'' => r = .returned (.string (ofL (wordL f.ret))) ∧ Keeps (fun _ => False) w' w'') := Lib.hid fun w' => dword_any f.ret HRT.out.1 HRT.out.2 w'
      have BC : Hid (∀ w', Keeps (fun _ => False) wo w' → Calls Tryd.prog 41 #[.agg #[.slice A m c, .slice A' k c'], .int .i64 f.body] w' fun r w'' => r = .returned (.string (ofL (showK bb))) ∧ Keeps (fun _ => False) w' w'') := Lib.hid (fun w' q => HCS.out _ HP.out f.body w' (HW.out.keep ((K1.out.trans KR.out (fun _ _ h => h)).trans q (fun _ _ h => h))) (HTr.out.keep q) (HREP.out _ HP.out))
      obtain ⟨SR, hSR⟩ : ∃ S, S = ofL (wordL f.ret) := ⟨_, rfl⟩
      obtain ⟨SB, hSB⟩ : ∃ S, S = ofL (showK bb) := ⟨_, rfl⟩
      have HZR : Hid (SR.size = (wordL f.ret).length) := Lib.hid (by rw [hSR, ofL_size])
      have HZB : Hid (SB.size = (showK bb).length) := Lib.hid (by rw [hSB, ofL_size])
      have HSR := Lib.hid hSR
      have HSB := Lib.hid hSB
      rw [← hSR] at RC
      rw [← hSB] at BC
      have q1 : ¬ 9223372036854775807 < g.size + 3 := by omega
      have q2 : ¬ 9223372036854775807 < g.size + 3 + S1.size := by omega
      have q3 : ¬ 9223372036854775807 < g.size + 3 + S1.size + 1 := by omega
      replace hA : A' = some ⟨bf, of, none⟩ := hA
      replace x1 : wo.cell? ⟨P1, 1, none⟩ = some (.slice (some ⟨bf, of, none⟩) k c') := by rw [← hA]; exact x1
      have HA := Lib.hid hA
      generalize f.ln = fln at d1
      obtain ⟨ret, hret⟩ : ∃ r, r = f.ret := ⟨_, rfl⟩
      obtain ⟨body, hbody⟩ : ∃ r, r = f.body := ⟨_, rfl⟩
      replace d3 : wo.cell? ⟨bf, of + i * 5 + 3, none⟩ = some (.int .i64 f.ret) := d3
      replace d4 : wo.cell? ⟨bf, of + i * 5 + 4, none⟩ = some (.int .i64 f.body) := d4
      rw [← hret] at d3 RC
      rw [← hbody] at d4 BC
      clear hp hpf hpm hOK htf hle2 hS1 z1 hnp dr hSR hSB hA hret hbody hpl hfl hin
      go_upto_region 6 with fail
      have ka := Keeps.one wo (.cells #[.string S1, .int .i64 fln, .slice ap np cp, .int .i64 ret, .int .i64 body] 36)
      obtain ⟨PF, hPF⟩ : ∃ X, X = wo.heap.size := ⟨_, rfl⟩
      obtain ⟨w2, hw2⟩ : ∃ w2, w2 = wo.alloc (.cells #[.string S1, .int .i64 fln, .slice ap np cp, .int .i64 ret, .int .i64 body] 36) := ⟨_, rfl⟩
      have HF2 : Hid (Loc w2 (fun _ => False) PF [.string S1, .int .i64 fln, .slice ap np cp, .int .i64 ret, .int .i64 body]) := Lib.hid (by rw [hw2, hPF]; exact Loc.new (fun h => h) [.string S1, .int .i64 fln, .slice ap np cp, .int .i64 ret, .int .i64 body] 36)
      rw [← hPF]
      rw [← hw2] at ka ⊢
      have K2 := Lib.hid ka
      have HX2 := Lib.hid (HXr.out.keeps ka)
      have HDR2 := Lib.hid (HDR.out.keep ka (fun _ _ _ _ h => h))
      clear ka hw2 hPF x0 x1 d0 d1 d2 d3 d4 HXr HDR
      have f0 := HF2.out.cells 0 _ rfl
      have HPRE : Hid ((g ++ { data := #[102, 110, 32] } ++ S1 ++ { data := #[40] }).data.toList = textT (ps.take i) ++ ([102, 110, 32] ++ f.s ++ [40])) := Lib.hid (by rw [HS1.out]; simp [bap_list, ofL_list, HG.out])
      have HPS : Hid ((g ++ { data := #[102, 110, 32] } ++ S1 ++ { data := #[40] }).size = g.size + 3 + S1.size + 1) := Lib.hid (by simp [ByteArray.size_append]; rfl)
      go_upto_region 8 with fail
      clear f0 q1 q2 q3
      go_loopg [3, 6] (np + 1) (fun q s3 s6 wr => ∃ (j : Nat) (gg : ByteArray), s3 = .string gg ∧ s6 = .int .i64 j ∧ j + q = np + 1 ∧ j ≤ np ∧ gg.data.toList = (textT (ps.take i) ++ ([102, 110, 32] ++ f.s ++ [40])) ++ joinX ((f.ps.take j).map paramL) ∧ Keeps (fun _ => False) w2 wr)
      case atStart => exact ⟨0, _, rfl, rfl, by omega, by omega, by rw [HPRE.out]; simp [joinX], Keeps.refl _ _⟩
      case round =>
        obtain ⟨j, gg, rfl, rfl, hjq, hjn1, hgg, kr⟩ := hrel
        have KJ := Lib.hid kr
        have HJQ := Lib.hid hjq
        have HGG := Lib.hid hgg
        have hggs : gg.size = g.size + 3 + S1.size + 1 + (joinX ((f.ps.take j).map paramL)).length := by
          rw [← len_size, hgg, List.length_append, ← HPRE.out, len_size, HPS.out]
        have f2 := (HF2.out.keeps kr).cells 2 _ rfl
        have f3 := (HF2.out.keeps kr).cells 3 _ rfl
        have f4 := (HF2.out.keeps kr).cells 4 _ rfl
        have x0 := (HX2.out.keeps kr).cells 0 _ rfl
        have x1 := (HX2.out.keeps kr).cells 1 _ rfl
        have HDRr := Lib.hid (HDR2.out.keep kr (fun _ _ _ _ h => h))
        clear hjq hgg kr
        by_cases hjn : j < np
        · have hJ : (j : Int) < (np : Int) := by omega
          have hdJ : decide ((j : Int) < (np : Int)) = true := decide_eq_true hJ
          have hj0 : (0 : Int) ≤ (j : Int) := by omega
          have HJN := Lib.hid hjn
          have hjl : j < f.ps.length := by rw [← HNP.out]; exact hjn
          have wj : IntKind.i64.wrap ((j : Int) + 1) = (j : Int) + 1 := IntWalk.i64_in _ (by
            have h1 : f.ps.length ≤ 1000 := HP3.out _ HP.out
            have h3 := HNP.out
            omega)
          obtain ⟨bp, op, hap, hcp⟩ := HDRr.out (by rw [flatP_length]; omega)
          have p0 := hcp (j * 2 + 0) _ (flatP_at f.ps j 0 hjl (by omega))
          have p1 := hcp (j * 2 + 1) _ (flatP_at f.ps j 1 hjl (by omega))
          have hnx := params_next hjl
          have hpre := joinX_pre (f.ps.map paramL) (j + 1)
          rw [← List.map_take, hnx] at hpre
          obtain ⟨pr, hpr⟩ : ∃ p, p = f.ps[j] := ⟨_, rfl⟩
          have hpo := HPO.out pr (by rw [hpr]; exact List.getElem_mem _)
          rw [← hpr] at p0 p1 hnx hpre
          obtain ⟨pn, pt⟩ := pr
          obtain ⟨S4, hS4⟩ : ∃ S, S = ofL pn := ⟨_, rfl⟩
          obtain ⟨S5, hS5⟩ : ∃ S, S = ofL (wordL pt) := ⟨_, rfl⟩
          have HS4 := Lib.hid hS4
          have HS5 := Lib.hid hS5
          have z4 : S4.size = pn.length := by rw [hS4, ofL_size]
          have z5 : S5.size = (wordL pt).length := by rw [hS5, ofL_size]
          have hpl2 : (paramL (pn, pt)).length = pn.length + 1 + (wordL pt).length := by unfold paramL; simp only [List.length_append]; rfl
          replace p0 : wr.cell? ⟨bp, op + j * 2, none⟩ = some (.string (ofL pn)) := p0
          replace p1 : wr.cell? ⟨bp, op + j * 2 + 1, none⟩ = some (.int .i64 pt) := p1
          rw [← hS4] at p0
          subst hap
          have WC : Hid (∀ w', Keeps (fun _ => False) wr w' → Calls Tryd.prog 40 #[.int .i64 pt] w' fun r w'' => r = .returned (.string S5) ∧ Keeps (fun _ => False) wr w'') := Lib.hid (fun w' q => by
            rw [HS5.out]
            exact (dword_any pt hpo.2.1 hpo.2.2 w').mono fun r w'' ⟨h1, h2⟩ => ⟨h1, q.trans h2 (fun _ _ h => h)⟩)
          have SK : Hid (∀ w', Keeps (fun _ => False) wr w' → (w'.cell? ⟨PF, 2, none⟩ = some (.slice (some ⟨bp, op, none⟩) np cp) ∧ w'.cell? ⟨bp, (op + j * 2), none⟩ = some (.string S4) ∧ w'.cell? ⟨bp, (op + j * 2 + 1), none⟩ = some (.int .i64 pt)) ∧ Keeps (fun _ => False) wr w') := Lib.hid (fun w' q => ⟨⟨(q.cell (cell_ltk f2) (fun h => h)).trans f2, (q.cell (cell_ltk p0) (fun h => h)).trans p0, (q.cell (cell_ltk p1) (fun h => h)).trans p1⟩, q⟩)
          have HNX := Lib.hid hnx
          have hz := HLE.out
          have hz1 := HZ1.out
          have hjz : j = 0 ∨ 0 < j := Nat.eq_zero_or_pos j
          have hj1 : (joinX ((f.ps.take j).map paramL)).length ≤ 100000000 := by
            have h1 := joinX_pre (f.ps.map paramL) j
            rw [← List.map_take] at h1
            omega
          rcases hjz with h00 | h0p
          · have hJ0 : ¬ (0 : Int) < (j : Int) := by omega
            have hd0 : decide ((0 : Int) < (j : Int)) = false := decide_eq_false hJ0
            rw [if_pos h00, List.nil_append, hpl2] at hpre
            have q1 : ¬ 9223372036854775807 < gg.size + S4.size := by omega
            have q2 : ¬ 9223372036854775807 < gg.size + S4.size + 1 := by omega
            have q3 : ¬ 9223372036854775807 < gg.size + S4.size + 1 + S5.size := by omega
            have HM2 : Hid ((gg ++ S4 ++ { data := #[32] } ++ S5).data.toList = (textT (ps.take i) ++ ([102, 110, 32] ++ f.s ++ [40])) ++ joinX ((f.ps.take (j + 1)).map paramL)) := Lib.hid (by
              have ht : f.ps.take j = [] := by rw [h00]; rfl
              rw [HNX.out, if_pos h00, bap_list, bap_list, bap_list, HGG.out, ht, HS4.out, HS5.out, ofL_list, ofL_list]
              simp [joinX, paramL])
            clear h00 hpre hnx hS4 hS5 z4 z5 hpl2 hz hz1 hpr hpo hcp hjl hjn hj1 hggs hjn1
            go_upto_region 12 with fail
            go_region_held3 (fun w' => (w'.cell? ⟨PF, 2, none⟩ = some (.slice (some ⟨bp, op, none⟩) np cp) ∧ w'.cell? ⟨bp, (op + j * 2), none⟩ = some (.string S4) ∧ w'.cell? ⟨bp, (op + j * 2 + 1), none⟩ = some (.int .i64 pt)) ∧ Keeps (fun _ => False) wr w') (first | exact SK.out _ (Keeps.refl _ _) | exact SK.out _ (by assumption) | exact SK.out _ ((Keeps.refl _ _).drew) | exact SK.out _ (Keeps.drew (by assumption))) (first | (go_at_call 40; refine (WC.out _ (by first | assumption | exact (Keeps.refl _ _).drew | exact Keeps.drew (by assumption) | exact Keeps.refl _ _)).mono ?_; rintro r w4 ⟨rfl, k4⟩))
            go_wp2_with fail
            go_roundg (gk - 1)
            case measure => go_light; have h1 := HJQ.out; have h2 := HJN.out; omega
            case rel => exact ⟨j + 1, _, rfl, by go_num, by have h1 := HJQ.out; have h2 := HJN.out; go_light; omega, by have h2 := HJN.out; go_light; omega, HM2.out, KJ.out.trans (by first | assumption | exact Keeps.drew (by assumption)) (fun _ _ h => h)⟩
          · have hJ0 : (0 : Int) < (j : Int) := by omega
            have hd0 : decide ((0 : Int) < (j : Int)) = true := decide_eq_true hJ0
            rw [if_neg (by omega), List.length_append, List.length_append, hpl2] at hpre
            have q0 : ¬ 9223372036854775807 < gg.size + 1 := by omega
            have q1 : ¬ 9223372036854775807 < gg.size + 1 + S4.size := by omega
            have q2 : ¬ 9223372036854775807 < gg.size + 1 + S4.size + 1 := by omega
            have q3 : ¬ 9223372036854775807 < gg.size + 1 + S4.size + 1 + S5.size := by omega
            have HM2 : Hid ((gg ++ { data := #[44] } ++ S4 ++ { data := #[32] } ++ S5).data.toList = (textT (ps.take i) ++ ([102, 110, 32] ++ f.s ++ [40])) ++ joinX ((f.ps.take (j + 1)).map paramL)) := Lib.hid (by
              rw [HNX.out, if_neg (by omega), bap_list, bap_list, bap_list, bap_list, HGG.out, HS4.out, HS5.out, ofL_list, ofL_list]
              simp [paramL])
            clear h0p hpre hnx hS4 hS5 z4 z5 hpl2 hz hz1 hpr hpo hcp hjl hjn hj1 hggs hjn1
            go_upto_region 12 with fail
            go_region_held3 (fun w' => (w'.cell? ⟨PF, 2, none⟩ = some (.slice (some ⟨bp, op, none⟩) np cp) ∧ w'.cell? ⟨bp, (op + j * 2), none⟩ = some (.string S4) ∧ w'.cell? ⟨bp, (op + j * 2 + 1), none⟩ = some (.int .i64 pt)) ∧ Keeps (fun _ => False) wr w') (first | exact SK.out _ (Keeps.refl _ _) | exact SK.out _ (by assumption) | exact SK.out _ ((Keeps.refl _ _).drew) | exact SK.out _ (Keeps.drew (by assumption))) (first | (go_at_call 40; refine (WC.out _ (by first | assumption | exact (Keeps.refl _ _).drew | exact Keeps.drew (by assumption) | exact Keeps.refl _ _)).mono ?_; rintro r w4 ⟨rfl, k4⟩))
            go_wp2_with fail
            go_roundg (gk - 1)
            case measure => go_light; have h1 := HJQ.out; have h2 := HJN.out; omega
            case rel => exact ⟨j + 1, _, rfl, by go_num, by have h1 := HJQ.out; have h2 := HJN.out; go_light; omega, by have h2 := HJN.out; go_light; omega, HM2.out, KJ.out.trans (by first | assumption | exact Keeps.drew (by assumption)) (fun _ _ h => h)⟩
        · obtain rfl : np = j := by omega
          have hJ : ¬ (np : Int) < (np : Int) := by omega
          have hdJ : decide ((np : Int) < (np : Int)) = false := decide_eq_false hJ
          have hz := HLE.out
          have e1 := HZ1.out
          have e2 := HZR.out
          have e3 := HZB.out
          have htake : f.ps.take np = f.ps := by rw [HNP.out]; exact List.take_length
          rw [htake] at hggs
          have q1 : ¬ 9223372036854775807 < gg.size + 1 := by omega
          have q2 : ¬ 9223372036854775807 < gg.size + 1 + SR.size := by omega
          have q3 : ¬ 9223372036854775807 < gg.size + 1 + SR.size + SB.size := by omega
          have HM2 : Hid ((gg ++ { data := #[41] } ++ SR ++ SB).data.toList = textT (ps.take (i + 1))) := Lib.hid (by
            rw [HN.out, bap_list, bap_list, bap_list, HGG.out, htake, HSR.out, HSB.out, ofL_list, ofL_list]
            simp [textF])
          have RD : Hid (∀ w', Keeps (fun _ => False) wr w' → Calls Tryd.prog 40 #[.int .i64 ret] w' fun r w'' => r = .returned (.string SR) ∧ Keeps (fun _ => False) wr w'') := Lib.hid (fun w' q => (RC.out w').mono fun r w'' ⟨h1, h2⟩ => ⟨h1, q.trans h2 (fun _ _ h => h)⟩)
          have BD : Hid (∀ w', Keeps (fun _ => False) wr w' → Calls Tryd.prog 41 #[.agg #[.slice A m c, .slice (some ⟨bf, of, none⟩) k c'], .int .i64 body] w' fun r w'' => r = .returned (.string SB) ∧ Keeps (fun _ => False) wr w'') := Lib.hid (fun w' q => by
            rw [← HA.out]
            exact (BC.out w' ((K2.out.trans KJ.out (fun _ _ h => h)).trans q (fun _ _ h => h))).mono fun r w'' ⟨h1, h2⟩ => ⟨h1, q.trans h2 (fun _ _ h => h)⟩)
          replace x1 : wr.cell? ⟨P1, 1, none⟩ = some (.slice (some ⟨bf, of, none⟩) k c') := by rw [← HA.out]; exact x1
          have SK : Hid (∀ w', Keeps (fun _ => False) wr w' → (w'.cell? ⟨PF, 3, none⟩ = some (.int .i64 ret) ∧ w'.cell? ⟨PF, 4, none⟩ = some (.int .i64 body) ∧ w'.cell? ⟨P1, 0, none⟩ = some (.slice A m c) ∧ w'.cell? ⟨P1, 1, none⟩ = some (.slice (some ⟨bf, of, none⟩) k c')) ∧ Keeps (fun _ => False) wr w') := Lib.hid (fun w' q => ⟨⟨(q.cell (cell_ltk f3) (fun h => h)).trans f3, (q.cell (cell_ltk f4) (fun h => h)).trans f4, (q.cell (cell_ltk x0) (fun h => h)).trans x0, (q.cell (cell_ltk x1) (fun h => h)).trans x1⟩, q⟩)
          clear hz e1 e2 e3 htake hggs hjn hjn1
          go_upto_region 13 with fail
          go_region_held3 (fun w' => (w'.cell? ⟨PF, 3, none⟩ = some (.int .i64 ret) ∧ w'.cell? ⟨PF, 4, none⟩ = some (.int .i64 body) ∧ w'.cell? ⟨P1, 0, none⟩ = some (.slice A m c) ∧ w'.cell? ⟨P1, 1, none⟩ = some (.slice (some ⟨bf, of, none⟩) k c')) ∧ Keeps (fun _ => False) wr w') (first | exact SK.out _ (Keeps.refl _ _) | exact SK.out _ (by assumption) | exact SK.out _ ((Keeps.refl _ _).drew) | exact SK.out _ (Keeps.drew (by assumption))) (first | (go_at_call 40; refine (RD.out _ (by first | assumption | exact (Keeps.refl _ _).drew | exact Keeps.drew (by assumption) | exact Keeps.refl _ _)).mono ?_; rintro r w4 ⟨rfl, k4⟩) | (go_at_call 41; refine (BD.out _ (by first | assumption | exact (Keeps.refl _ _).drew | exact Keeps.drew (by assumption) | exact Keeps.refl _ _)).mono ?_; rintro r w4 ⟨rfl, k4⟩))
          go_wp2_with fail
          go_roundg (g0 - 1)
          case measure => go_light; have h1 := HIQ.out; have h2 := HIN.out; omega
          case rel => exact ⟨i + 1, _, rfl, by go_num, by have h1 := HIQ.out; have h2 := HIN.out; go_light; omega, by have h2 := HIN.out; go_light; omega, HM2.out, (KR.out.trans K2.out (fun _ _ h => h)).trans (KJ.out.trans (by first | assumption | exact Keeps.drew (by assumption)) (fun _ _ h => h)) (fun _ _ h => h)⟩
    · obtain rfl : k = i := by omega
      have hI : ¬ (k : Int) < (k : Int) := by omega
      have hdI : decide ((k : Int) < (k : Int)) = false := decide_eq_false hI
      have HM2 : Hid (g = ofL (textT ps)) := Lib.hid (of_list (by
        rw [HG.out]
        have h1 := HK.out
        rw [HFS.out, List.length_map] at h1
        rw [h1, List.take_length]))
      clear hin hin1 hgs
      go_wp2_with fail
      go_ret
      exact ⟨by (rw [HM2.out]; first | done | rfl), K1.out.trans KR.out (fun _ _ h => h)⟩
end Go.Proofs.YtgelggdgbmldiaaDoor
