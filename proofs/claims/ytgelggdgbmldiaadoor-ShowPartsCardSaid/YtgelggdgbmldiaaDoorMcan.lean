/-
  Layer 3: the program's text of an expression. Written by an AI agent.
  Layer 3: the program's text of an expression. Written by an AI agent.
-/
import Derived.Lib.Bytealg
import Derived.Test.YtgelggdgbmldiaaDoorChecked
import Derived.Laws.OwnMore
import Derived.Laws.AppendOwnNone
import Derived.OwnWalk
import Derived.Lib.AppendZerosOnto
import Derived.Below
import Derived.Stop.Walk2
import Derived.WalkKit
import Derived.WalkLawsBesides
import Derived.WalkSpells
import Derived.Outline
import Derived.BigQuiet
import Derived.Deep.CutBlock
import Derived.Deep.CutRange
import Derived.Deep.DeepCutAuto
import Derived.Deep.RegionHeld3
import Derived.Deep.RegionLaw
import Derived.Deep.RegionWith
import Derived.StillTailTactics
import Derived.RegionTactic
import Derived.Laws.StructEq
import Derived.Lib.Hide
import Derived.Shelf.Abstract
import Derived.Shelf.Lay
import Derived.Ground.NamesProg
import Derived.Shelf.Strings.Prefix
import Derived.Shelf.Small.Strs
import Derived.Shelf.Strings.Count
import Derived.Shelf.Strconv.ErrVarParseInt
import Derived.WalkMore
import Derived.Scope
import Derived.Shelf.Slices.Turned
import Derived.Lib.SlicesS
import Derived.Deep.RegionHeld
import Derived.Deep.LoopGhost
import Derived.Deep.Light
import Derived.Shelf.Strconv.Itoa3
import Derived.Lib.LaidTab
import Derived.Lib.ItoaLen
import Derived.Maps.Own
import Derived.Maps.OwnOps
import Derived.StringKeys
import Derived.Test.YtgelggdgbmldiaaDoorMcaa
import Derived.Test.YtgelggdgbmldiaaDoorMcab
import Derived.Test.YtgelggdgbmldiaaDoorMcac
import Derived.Test.YtgelggdgbmldiaaDoorMcad
import Derived.Test.YtgelggdgbmldiaaDoorMcae
import Derived.Test.YtgelggdgbmldiaaDoorMcaf
import Derived.Test.YtgelggdgbmldiaaDoorMcag
import Derived.Test.YtgelggdgbmldiaaDoorMcah
import Derived.Test.YtgelggdgbmldiaaDoorMcai
import Derived.Test.YtgelggdgbmldiaaDoorMcaj
import Derived.Test.YtgelggdgbmldiaaDoorMcak
import Derived.Shelf.Strings.OnBuilder
import Derived.Test.YtgelggdgbmldiaaDoorMcal
import Derived.Test.YtgelggdgbmldiaaDoorMcam
namespace Go.Proofs.YtgelggdgbmldiaaDoor
open Go Go.RowKit Go.Shelf
set_option linter.unusedVariables false
set_option linter.unusedSimpArgs false
set_option maxRecDepth 100000 in
set_option maxHeartbeats 16000000 in
theorem px_binx (Q : List UInt8 → Prop) (nd : List Nd) (fs : List Fnc) (A A' : Option Addr) (m k c c' : Nat) (hm : m = nd.length) (s : List UInt8) (e f : Ex) (h2 : ¬ lvl s = 2) (hlen : s.length + (showE e).length + (showE f).length ≤ 1000000) (hce : PXC Q nd fs A A' m k c c' e) (hcf : PXC Q nd fs A A' m k c c' f) : PXC Q nd fs A A' m k c c' (.bin s e f) := by
  have HL := Lib.hid hlen
  have HC := Lib.hid hce
  have HD := Lib.hid hcf
  clear hlen hce hcf
  intro i w hw hT hR
  obtain ⟨x, y, ha, hs, hx, hy⟩ := hR
  obtain ⟨j, b, off, ln, a, cc, rfl, hj, rfl, hn⟩ := hT.node ha
  rw [← hm] at hj
  have hjI : (j : Int) < (m : Int) := by omega
  have hj0 : (0 : Int) ≤ (j : Int) := by omega
  have HT := Lib.hid hT
  have HX := Lib.hid hx
  have HY := Lib.hid hy
  have HS := Lib.hid hs
  have H2 := Lib.hid h2
  clear hx hy hs h2
  have HW := Lib.hid hw
  have HN := Lib.hid hn
  have HM := Lib.hid hm
  clear hT hw ha hj hm
  go_enter Tryd.func20, Tryd.ntmps20
  go_upto_region 1 with fail
  have ka := Keeps.one w (.cells #[.slice (some ⟨b, off, none⟩) m c, .slice A' k c'] 27)
  obtain ⟨P1, hP1⟩ : ∃ X, X = w.heap.size := ⟨_, rfl⟩
  obtain ⟨w1, hw1⟩ : ∃ w1, w1 = w.alloc (.cells #[.slice (some ⟨b, off, none⟩) m c, .slice A' k c'] 27) := ⟨_, rfl⟩
  have HX1 : Hid (Loc w1 (fun _ => False) P1 [.slice (some ⟨b, off, none⟩) m c, .slice A' k c']) := Lib.hid (by rw [hw1, hP1]; exact Loc.new (fun h => h) [.slice (some ⟨b, off, none⟩) m c, .slice A' k c'] 27)
  have HN1 := Lib.hid (HN.out.keep (hw1 ▸ ka))
  rw [← hP1]
  rw [← hw1] at ka ⊢
  have K1 := Lib.hid ka
  have HT1 := Lib.hid (HT.out.keep ka)
  clear ka hw1 hP1 HT HN
  have x0 := HX1.out.cells 0 _ rfl
  have x1 := HX1.out.cells 1 _ rfl
  have c0 := HN1.out.c0
  have c1 := HN1.out.c1
  have c2 := HN1.out.c2
  have c3 := HN1.out.c3
  have c4 : w1.cell? ⟨b, off + j * 5 + 4, none⟩ = some (.slice a 2 cc) := HN1.out.c4
  go_upto_region 2 with fail
  have ka := Keeps.one w1 (.cells #[.int .i64 9, .int .i64 ln, .int .i64 0, .string (ofL s), .slice a 2 cc] 33)
  obtain ⟨P2, hP2⟩ : ∃ X, X = w1.heap.size := ⟨_, rfl⟩
  obtain ⟨w2, hw2⟩ : ∃ w2, w2 = w1.alloc (.cells #[.int .i64 9, .int .i64 ln, .int .i64 0, .string (ofL s), .slice a 2 cc] 33) := ⟨_, rfl⟩
  have HY2 : Hid (Loc w2 (fun _ => False) P2 [.int .i64 9, .int .i64 ln, .int .i64 0, .string (ofL s), .slice a 2 cc]) := Lib.hid (by rw [hw2, hP2]; exact Loc.new (fun h => h) [.int .i64 9, .int .i64 ln, .int .i64 0, .string (ofL s), .slice a 2 cc] 33)
  rw [← hP2]
  rw [← hw2] at ka ⊢
  have HX2 := Lib.hid (HX1.out.keeps ka)
  have HT2 := Lib.hid (HT1.out.keep ka)
  have HN2 := Lib.hid (HN1.out.keep ka)
  have K2 := Lib.hid (K1.out.trans ka (fun _ _ h => h))
  clear ka hw2 hP2 x0 x1 c0 c1 c2 c3 c4 HX1 HT1 HN1 K1
  have x0 := HX2.out.cells 0 _ rfl
  have x1 := HX2.out.cells 1 _ rfl
  have y0 := HY2.out.cells 0 _ rfl
  have y2 := HY2.out.cells 2 _ rfl
  have y3 := HY2.out.cells 3 _ rfl
  have y4 := HY2.out.cells 4 _ rfl
  obtain ⟨b0, o0, rfl, kc⟩ := HN2.out.ro.get (k := 0) (by simp) (x := x) rfl
  obtain ⟨b1, o1, ea1, kd⟩ := HN2.out.ro.get (k := 1) (by simp) (x := y) rfl
  cases ea1
  have kc : w2.cell? ⟨b0, o0, none⟩ = some (.int .i64 x) := kc
  obtain ⟨kv, hkv⟩ : ∃ n, n = lvl s := ⟨_, rfl⟩
  have hk4 : kv ≤ 4 := by
    rw [hkv]
    unfold lvl
    repeat' split
    all_goals omega
  have HKV := Lib.hid hkv
  have LC : Hid (Calls Tryd.prog 18 #[.agg #[.int .i64 9, .int .i64 ln, .int .i64 0, .string (ofL s), .slice (some ⟨b0, o0, none⟩) 2 cc]] w2 fun r w'' => r = .returned (.int .i64 (kv : Int)) ∧ Keeps (fun _ => False) w2 w'') := Lib.hid (by
    have h := plevel_any 9 ln 0 s (some ⟨b0, o0, none⟩) 2 cc w2 (fun _ => HS.out)
    rw [show levK 9 s = kv by rw [HKV.out]; rfl] at h
    exact h)
  have y1 := HY2.out.cells 1 _ rfl
  clear hkv
  go_upto_region 21 with fail
  go_wp2_with fail
  refine LC.out.mono ?_
  rintro r w3 ⟨rfl, k3⟩
  have K3 := Lib.hid (K2.out.trans k3 (fun _ _ h => h))
  have HX3 := Lib.hid (HX2.out.keeps k3)
  have HY3 := Lib.hid (HY2.out.keeps k3)
  have HT3 := Lib.hid (HT2.out.keep k3)
  have kc := (k3.cell (cell_ltk kc) (fun h => h)).trans kc
  have kd := (k3.cell (cell_ltk kd) (fun h => h)).trans kd
  clear k3 LC x0 x1 y0 y1 y2 y3 y4 HX2 HY2 HT2 HN2 K2
  have x0 := HX3.out.cells 0 _ rfl
  have x1 := HX3.out.cells 1 _ rfl
  have y3 := HY3.out.cells 3 _ rfl
  have y4 := HY3.out.cells 4 _ rfl
  have hne : ¬ (kv : Int) = 2 := by have h1 := HKV.out; have h2 := H2.out; omega
  have hned : ((kv : Int) == 2) = false := by simpa using hne
  have wk2 : IntKind.i64.wrap ((kv : Int) + 1) = (kv : Int) + 1 := IntWalk.i64_in _ (by omega)
  obtain ⟨S1, hS1⟩ : ∃ S, S = ofL s := ⟨_, rfl⟩
  have z1 : Hid (S1.size = s.length) := Lib.hid (by rw [hS1]; exact ofL_size _)
  have HS1 := Lib.hid hS1
  rw [← hS1] at y3
  obtain ⟨S2, hS2⟩ : ∃ S, S = ofL (parL (decide (lvE e < kv)) (showE e)) := ⟨_, rfl⟩
  have z2 : Hid (S2.size ≤ (showE e).length + 2) := Lib.hid (by rw [hS2, ofL_size]; exact parL_len _ _)
  have HS2 := Lib.hid hS2
  obtain ⟨S3, hS3⟩ : ∃ S, S = ofL (parL (decide (lvE f < (kv + 1))) (showE f)) := ⟨_, rfl⟩
  have z3 : Hid (S3.size ≤ (showE f).length + 2) := Lib.hid (by rw [hS3, ofL_size]; exact parL_len _ _)
  have HS3 := Lib.hid hS3
  have CH : Hid (∀ w', Keeps (fun _ => False) w3 w' → Calls Tryd.prog 31 #[.int .i64 0, .int .i64 (kv : Int), .pointer (some ⟨P2, 0, none⟩), .pointer (some ⟨P1, 0, none⟩)] w' fun r w'' => r = .returned (.string S2) ∧ Keeps (fun _ => False) w3 w'') := Lib.hid (fun w' q => by
    rw [HS2.out]
    exact (side_any Q nd fs _ A' m k c c' HM.out e (by have := HL.out; omega) HC.out 0 kv 2 cc b0 o0 P1 P2 x (by decide) (by omega) w' (HW.out.keep (K3.out.trans q (fun _ _ h => h))) (HT3.out.keep q) HX.out ((q.cell (cell_ltk x0) (fun h => h)).trans x0) ((q.cell (cell_ltk x1) (fun h => h)).trans x1) ((q.cell (cell_ltk y4) (fun h => h)).trans y4) ((q.cell (cell_ltk kc) (fun h => h)).trans kc)).mono fun r w'' ⟨h1, h2⟩ => ⟨h1, q.trans h2 (fun _ _ h => h)⟩)
  have DH : Hid (∀ w', Keeps (fun _ => False) w3 w' → Calls Tryd.prog 31 #[.int .i64 1, .int .i64 ((kv : Int) + 1), .pointer (some ⟨P2, 0, none⟩), .pointer (some ⟨P1, 0, none⟩)] w' fun r w'' => r = .returned (.string S3) ∧ Keeps (fun _ => False) w3 w'') := Lib.hid (fun w' q => by
    rw [HS3.out]
    exact (side_any Q nd fs _ A' m k c c' HM.out f (by have := HL.out; omega) HD.out 1 (kv + 1) 2 cc b0 o0 P1 P2 y (by decide) (by omega) w' (HW.out.keep (K3.out.trans q (fun _ _ h => h))) (HT3.out.keep q) HY.out ((q.cell (cell_ltk x0) (fun h => h)).trans x0) ((q.cell (cell_ltk x1) (fun h => h)).trans x1) ((q.cell (cell_ltk y4) (fun h => h)).trans y4) ((q.cell (cell_ltk kd) (fun h => h)).trans kd)).mono fun r w'' ⟨h1, h2⟩ => ⟨h1, q.trans h2 (fun _ _ h => h)⟩)
  have q0 : ¬ 9223372036854775807 < S2.size + S1.size := by have h1 := HL.out; have h2 := z1.out; have h3 := z2.out; omega
  have q1 : ¬ 9223372036854775807 < S2.size + S1.size + S3.size := by have h1 := HL.out; have h2 := z1.out; have h3 := z2.out; have h4 := z3.out; omega
  have HM2 : Hid (S2 ++ S1 ++ S3 = ofL (showE (.bin s e f))) := Lib.hid (of_list (by
    rw [bap_list, bap_list, HS1.out, HS2.out, HS3.out, ofL_list, ofL_list, ofL_list]
    show _ = parL (decide (lvE e < leftL (lvl s))) (showE e) ++ (s ++ parL (decide (lvE f < lvl s + 1)) (showE f))
    rw [← HKV.out, List.append_assoc]
    rw [show leftL kv = kv from if_neg (by omega)]))
  have SK : Hid (∀ w', Keeps (fun _ => False) w3 w' → (w'.cell? ⟨P2, 3, none⟩ = some (.string S1)) ∧ Keeps (fun _ => False) w3 w') := Lib.hid (fun w' q => ⟨(q.cell (cell_ltk y3) (fun h => h)).trans y3, q⟩)
  clear hS1 hS2 hS3
  go_upto_region 25 with fail
  go_region_held3 (fun w' => (w'.cell? ⟨P2, 3, none⟩ = some (.string S1)) ∧ Keeps (fun _ => False) w3 w') (first | exact SK.out _ (Keeps.refl _ _) | exact SK.out _ (by assumption) | exact SK.out _ ((Keeps.refl _ _).drew) | exact SK.out _ (Keeps.drew (by assumption))) (first | (go_at_call 31; first | (with_reducible refine (CH.out _ (by first | assumption | exact (Keeps.refl _ _).drew | exact Keeps.drew (by assumption) | exact Keeps.refl _ _)).mono ?_; rintro r w4 ⟨rfl, k4⟩) | (with_reducible refine (DH.out _ (by first | assumption | exact (Keeps.refl _ _).drew | exact Keeps.drew (by assumption) | exact Keeps.refl _ _)).mono ?_; rintro r w4 ⟨rfl, k4⟩)))
  all_goals go_wp2_with fail
  all_goals go_ret
  all_goals exact ⟨by (rw [HM2.out]; first | done | rfl), K3.out.trans (by first | assumption | exact Keeps.drew (by assumption)) (fun _ _ h => h)⟩
end Go.Proofs.YtgelggdgbmldiaaDoor

namespace Go.Proofs.YtgelggdgbmldiaaDoor
open Go Go.RowKit Go.Shelf
set_option linter.unusedVariables false
set_option linter.unusedSimpArgs false
set_option maxRecDepth 100000 in
set_option maxHeartbeats 16000000 in
theorem px_call (Q : List UInt8 → Prop) (nd : List Nd) (fs : List Fnc) (A A' : Option Addr) (m k c c' : Nat) (hm : m = nd.length) (s : List UInt8) (l : List Ex) (hlen : s.length + totC l ≤ 1000000) (hc : ∀ e ∈ l, PXC Q nd fs A A' m k c c' e) : PXR Q nd fs A A' m k c c' (.call s l) := by
  have HL := Lib.hid hlen
  have HC := Lib.hid hc
  clear hlen hc
  intro i w hw hT hR
  obtain ⟨xs, ha, _, hx⟩ := hR
  obtain ⟨j, b, off, ln, a, cc, rfl, hj, rfl, hn⟩ := hT.node ha
  rw [← hm] at hj
  have hjI : (j : Int) < (m : Int) := by omega
  have hj0 : (0 : Int) ≤ (j : Int) := by omega
  obtain ⟨n, hn2⟩ : ∃ n, n = xs.length := ⟨_, rfl⟩
  have HNX := Lib.hid hn2
  have HX := Lib.hid hx
  clear hx hn2
  have HT := Lib.hid hT
  have HW := Lib.hid hw
  have HN := Lib.hid hn
  have HM := Lib.hid hm
  clear hT hw ha hj hm
  go_enter Tryd.func20, Tryd.ntmps20
  go_upto_region 1 with fail
  have ka := Keeps.one w (.cells #[.slice (some ⟨b, off, none⟩) m c, .slice A' k c'] 27)
  obtain ⟨P1, hP1⟩ : ∃ X, X = w.heap.size := ⟨_, rfl⟩
  obtain ⟨w1, hw1⟩ : ∃ w1, w1 = w.alloc (.cells #[.slice (some ⟨b, off, none⟩) m c, .slice A' k c'] 27) := ⟨_, rfl⟩
  have HX1 : Hid (Loc w1 (fun _ => False) P1 [.slice (some ⟨b, off, none⟩) m c, .slice A' k c']) := Lib.hid (by rw [hw1, hP1]; exact Loc.new (fun h => h) [.slice (some ⟨b, off, none⟩) m c, .slice A' k c'] 27)
  have HN1 := Lib.hid (HN.out.keep (hw1 ▸ ka))
  rw [← hP1]
  rw [← hw1] at ka ⊢
  have K1 := Lib.hid ka
  have HT1 := Lib.hid (HT.out.keep ka)
  clear ka hw1 hP1 HT HN
  have x0 := HX1.out.cells 0 _ rfl
  have x1 := HX1.out.cells 1 _ rfl
  have c0 := HN1.out.c0
  have c1 := HN1.out.c1
  have c2 := HN1.out.c2
  have c3 := HN1.out.c3
  have c4 := HN1.out.c4
  rw [← HNX.out] at c4
  go_upto_region 2 with fail
  have ka := Keeps.one w1 (.cells #[.int .i64 21, .int .i64 ln, .int .i64 0, .string (ofL s), .slice a n cc] 33)
  obtain ⟨P2, hP2⟩ : ∃ X, X = w1.heap.size := ⟨_, rfl⟩
  obtain ⟨w2, hw2⟩ : ∃ w2, w2 = w1.alloc (.cells #[.int .i64 21, .int .i64 ln, .int .i64 0, .string (ofL s), .slice a n cc] 33) := ⟨_, rfl⟩
  have HY2 : Hid (Loc w2 (fun _ => False) P2 [.int .i64 21, .int .i64 ln, .int .i64 0, .string (ofL s), .slice a n cc]) := Lib.hid (by rw [hw2, hP2]; exact Loc.new (fun h => h) [.int .i64 21, .int .i64 ln, .int .i64 0, .string (ofL s), .slice a n cc] 33)
  rw [← hP2]
  rw [← hw2] at ka ⊢
  have HX2 := Lib.hid (HX1.out.keeps ka)
  have HT2 := Lib.hid (HT1.out.keep ka)
  have HN2 := Lib.hid (HN1.out.keep ka)
  have K2 := Lib.hid (K1.out.trans ka (fun _ _ h => h))
  clear ka hw2 hP2 x0 x1 c0 c1 c2 c3 c4 HX1 HT1 HN1 K1
  have x0 := HX2.out.cells 0 _ rfl
  have x1 := HX2.out.cells 1 _ rfl
  have y0 := HY2.out.cells 0 _ rfl
  have y2 := HY2.out.cells 2 _ rfl
  have y3 := HY2.out.cells 3 _ rfl
  have y4 := HY2.out.cells 4 _ rfl
  obtain ⟨S1, hS1⟩ : ∃ S, S = ofL s := ⟨_, rfl⟩
  have z1 : S1.size = s.length := by rw [hS1]; exact ofL_size _
  have HS1 := Lib.hid hS1
  rw [← hS1] at y3
  obtain ⟨S2, hS2⟩ : ∃ S, S = ofL (joinC l) := ⟨_, rfl⟩
  have z2 : S2.size ≤ totC l := by rw [hS2, ofL_size]; exact joinC_le l
  have HS2 := Lib.hid hS2
  have CH : Hid (∀ w', Keeps (fun _ => False) w2 w' → Calls Tryd.prog 34 #[.agg #[.slice (some ⟨b, off, none⟩) m c, .slice A' k c'], .slice a n cc] w' fun r w'' => r = .returned (.string S2) ∧ Keeps (fun _ => False) w2 w'') := Lib.hid (fun w' q => by
    rw [HS2.out]
    exact (all_texts Q nd fs _ A' m k c c' HM.out l xs (by have := HL.out; omega) HC.out a n cc HNX.out HX.out w' (HW.out.keep (K2.out.trans q (fun _ _ h => h))) (HT2.out.keep q) (HN2.out.ro.keep q (fun _ _ _ _ h => h))).mono fun r w'' ⟨h1, h2⟩ => ⟨h1, q.trans h2 (fun _ _ h => h)⟩)
  have q0 : ¬ 9223372036854775807 < S1.size + 1 := by have := HL.out; omega
  have q1 : ¬ 9223372036854775807 < S1.size + 1 + S2.size := by have := HL.out; omega
  have q2 : ¬ 9223372036854775807 < S1.size + 1 + S2.size + 1 := by have := HL.out; omega
  have HM2 : Hid (S1 ++ { data := #[40] } ++ S2 ++ { data := #[41] } = ofL (showR (.call s l))) := Lib.hid (of_list (by rw [HS1.out, HS2.out]; simp [bap_list, ofL_list, showR]; done))
  have SK : Hid (∀ w', Keeps (fun _ => False) w2 w' → (w'.cell? ⟨P1, 0, none⟩ = some ((.slice (some ⟨b, off, none⟩) m c)) ∧ w'.cell? ⟨P1, 1, none⟩ = some ((.slice A' k c')) ∧ w'.cell? ⟨P2, 3, none⟩ = some (.string S1) ∧ w'.cell? ⟨P2, 4, none⟩ = some (.slice a n cc)) ∧ Keeps (fun _ => False) w2 w') := Lib.hid (fun w' q => ⟨⟨(q.cell (cell_ltk x0) (fun h => h)).trans x0, (q.cell (cell_ltk x1) (fun h => h)).trans x1, (q.cell (cell_ltk y3) (fun h => h)).trans y3, (q.cell (cell_ltk y4) (fun h => h)).trans y4⟩, q⟩)
  clear hS1 hS2 z1 z2
  go_upto_region 31 with fail
  go_region_held3 (fun w' => (w'.cell? ⟨P1, 0, none⟩ = some ((.slice (some ⟨b, off, none⟩) m c)) ∧ w'.cell? ⟨P1, 1, none⟩ = some ((.slice A' k c')) ∧ w'.cell? ⟨P2, 3, none⟩ = some (.string S1) ∧ w'.cell? ⟨P2, 4, none⟩ = some (.slice a n cc)) ∧ Keeps (fun _ => False) w2 w') (first | exact SK.out _ (Keeps.refl _ _) | exact SK.out _ (by assumption) | exact SK.out _ ((Keeps.refl _ _).drew) | exact SK.out _ (Keeps.drew (by assumption))) (first | (go_at_call 34; refine (CH.out _ (by first | assumption | exact (Keeps.refl _ _).drew | exact Keeps.drew (by assumption) | exact Keeps.refl _ _)).mono ?_; rintro e w3 ⟨rfl, k3⟩))
  all_goals go_wp2_with fail
  all_goals go_ret
  all_goals exact ⟨by (rw [HM2.out]; first | done | rfl), K2.out.trans (by first | assumption | exact Keeps.drew (by assumption)) (fun _ _ h => h)⟩
theorem pexpr_all (Q : List UInt8 → Prop) (nd : List Nd) (fs : List Fnc) (A A' : Option Addr) (m k c c' : Nat) (hm : m = nd.length) : ∀ e, massE e ≤ 900000 → PXC Q nd fs A A' m k c c' e := by
  intro e
  induction e with
  | int n => intro _; exact px_int Q nd fs A A' m k c c' hm n
  | bool b =>
    intro _
    cases b with
    | true => exact px_bool_true Q nd fs A A' m k c c' hm
    | false => exact px_bool_false Q nd fs A A' m k c c' hm
  | text s => intro h; exact px_text Q nd fs A A' m k c c' hm s (by have h : s.length + 60 ≤ 900000 := h; omega)
  | var s => intro _; exact px_var Q nd fs A A' m k c c' hm s
  | index s a ih =>
    intro h i w hw hT hR
    have h : massE a + (s.length + 60) ≤ 900000 := h
    obtain ⟨x, h1, h2, h3⟩ := hR
    have h4 := show_len a x h3
    exact px_index Q nd fs A A' m k c c' hm s a (by omega) (ih (by omega)) i w hw hT ⟨x, h1, h2, h3⟩
  | len a ih =>
    intro h i w hw hT hR
    have h : massE a + 60 ≤ 900000 := h
    obtain ⟨x, h1, h3⟩ := hR
    have h4 := show_len a x h3
    exact px_len Q nd fs A A' m k c c' hm a (by omega) (ih (by omega)) i w hw hT ⟨x, h1, h3⟩
  | neg a ih =>
    intro h i w hw hT hR
    have h : massE a + 60 ≤ 900000 := h
    obtain ⟨x, h1, h3⟩ := hR
    have h4 := show_len a x h3
    exact px_neg Q nd fs A A' m k c c' hm a (by omega) (ih (by omega)) i w hw hT ⟨x, h1, h3⟩
  | not a ih =>
    intro h i w hw hT hR
    have h : massE a + 60 ≤ 900000 := h
    obtain ⟨x, h1, h3⟩ := hR
    have h4 := show_len a x h3
    exact px_not Q nd fs A A' m k c c' hm a (by omega) (ih (by omega)) i w hw hT ⟨x, h1, h3⟩
  | bin s a b iha ihb =>
    intro h i w hw hT hR
    have h : massE a + massE b + (s.length + 60) ≤ 900000 := h
    obtain ⟨x, y, h1, h2, h3, h4⟩ := hR
    have h5 := show_len a x h3
    have h6 := show_len b y h4
    have ca := (iha (by omega))
    have cb := (ihb (by omega))
    by_cases h2' : lvl s = 2
    · exact px_bin2 Q nd fs A A' m k c c' hm s a b h2' (by omega) ca cb i w hw hT ⟨x, y, h1, h2, h3, h4⟩
    · exact px_binx Q nd fs A A' m k c c' hm s a b h2' (by omega) ca cb i w hw hT ⟨x, y, h1, h2, h3, h4⟩
theorem pright_all (Q : List UInt8 → Prop) (nd : List Nd) (fs : List Fnc) (A A' : Option Addr) (m k c c' : Nat) (hm : m = nd.length) (r : Rt) (h : massR r ≤ 900000) : PXR Q nd fs A A' m k c c' r := by
  cases r with
  | ex e => exact fun i w hw hT hR => pexpr_all Q nd fs A A' m k c c' hm e h i w hw hT hR
  | input => exact px_input Q nd fs A A' m k c c' hm
  | new a =>
    intro i w hw hT hR
    have h : massE a + 60 ≤ 900000 := h
    obtain ⟨x, h1, h3⟩ := hR
    have h4 := show_len a x h3
    exact px_new Q nd fs A A' m k c c' hm a (by omega) (pexpr_all Q nd fs A A' m k c c' hm a (by omega)) i w hw hT ⟨x, h1, h3⟩
  | call s l =>
    intro i w hw hT hR
    have h : massEs l + (s.length + 60) ≤ 900000 := h
    obtain ⟨xs, h1, h2, h3⟩ := hR
    have h4 := tot_mass l xs h3
    exact px_call Q nd fs A A' m k c c' hm s l (by omega) (fun e he => pexpr_all Q nd fs A A' m k c c' hm e (by have := mass_mem l e he; omega)) i w hw hT ⟨xs, h1, h2, h3⟩
end Go.Proofs.YtgelggdgbmldiaaDoor
