/-
  Layer 3: the document's at, and signs. Written by an AI agent.
  Layer 3: the document's text of signs. Written by an AI agent.
  Layer 3: the document's text of signs. Written by an AI agent.
-/
import Derived.Lib.Bytealg
import Derived.Test.YtgelggdgbmldiaaDoorChecked
import Derived.Laws.OwnMore
import Derived.Laws.AppendOwnNone
import Derived.OwnWalk
import Derived.Lib.AppendZerosOnto
import Derived.Below
import Derived.Stop.Walk2
import Derived.WalkKit
import Derived.WalkLawsBesides
import Derived.WalkSpells
import Derived.Outline
import Derived.BigQuiet
import Derived.Deep.CutBlock
import Derived.Deep.CutRange
import Derived.Deep.DeepCutAuto
import Derived.Deep.RegionHeld3
import Derived.Deep.RegionLaw
import Derived.Deep.RegionWith
import Derived.StillTailTactics
import Derived.RegionTactic
import Derived.Laws.StructEq
import Derived.Lib.Hide
import Derived.Shelf.Abstract
import Derived.Shelf.Lay
import Derived.Ground.NamesProg
import Derived.Shelf.Strings.Prefix
import Derived.Shelf.Small.Strs
import Derived.Shelf.Strings.Count
import Derived.Shelf.Strconv.ErrVarParseInt
import Derived.WalkMore
import Derived.Scope
import Derived.Shelf.Slices.Turned
import Derived.Lib.SlicesS
import Derived.Deep.RegionHeld
import Derived.Deep.LoopGhost
import Derived.Deep.Light
import Derived.Shelf.Strconv.Itoa3
import Derived.Lib.LaidTab
import Derived.Lib.ItoaLen
import Derived.Test.YtgelggdgbmldiaaDoorMcaa
import Derived.Test.YtgelggdgbmldiaaDoorMcab
import Derived.Test.YtgelggdgbmldiaaDoorMcac
import Derived.Test.YtgelggdgbmldiaaDoorMcad
import Derived.Test.YtgelggdgbmldiaaDoorMcae
import Derived.Test.YtgelggdgbmldiaaDoorMcaf
import Derived.Test.YtgelggdgbmldiaaDoorMcag
import Derived.Test.YtgelggdgbmldiaaDoorMcah
import Derived.Test.YtgelggdgbmldiaaDoorMcai
import Derived.Test.YtgelggdgbmldiaaDoorMeaa
import Derived.Test.YtgelggdgbmldiaaDoorMeab
namespace Go.Proofs.YtgelggdgbmldiaaDoor
open Go Go.RowKit Go.Shelf
set_option linter.unusedVariables false
set_option linter.unusedSimpArgs false
set_option maxRecDepth 100000 in
set_option maxHeartbeats 16000000 in
theorem rat_any (Q : List UInt8 → Prop) (nd : List Nd) (fs : List Fnc) (A A' : Option Addr) (m k c c' : Nat) (hm : m = nd.length) (e : Ex) (hlen : (showE e).length ≤ 1000000) (hc : RXC Q nd fs A A' m k c c' e) : RAC Q nd fs A A' m k c c' e := by
  intro i lv w hw hT hR hlv
  obtain ⟨kk, nn, s, l, ha, hk, h9⟩ := lev_of e i hR
  have HR := Lib.hid hR
  obtain ⟨j, b, off, ln, a, cc, rfl, hj, rfl, hn⟩ := hT.node ha
  rw [← hm] at hj
  have hjI : (j : Int) < (m : Int) := by omega
  have hj0 : (0 : Int) ≤ (j : Int) := by omega
  have HT := Lib.hid hT
  have HW := Lib.hid hw
  have HN := Lib.hid hn
  have HM := Lib.hid hm
  obtain ⟨ll, hll⟩ : ∃ n, n = l.length := ⟨_, rfl⟩
  have HLL := Lib.hid hll
  have HL := Lib.hid hlen
  have LC : Hid (∀ w', Calls Tryd.prog 19 #[.agg #[.int .i64 kk, .int .i64 ln, .int .i64 nn, .string (ofL s), .slice a ll cc]] w' fun r w'' => r = .returned (.int .i64 (lvE e : Nat)) ∧ Keeps (fun _ => False) w' w'') := Lib.hid fun w' => by
    rw [← hk]
    exact rlevel_any kk ln nn s a ll cc w' h9
  obtain ⟨S2, hS2⟩ : ∃ S, S = ofL (showE e) := ⟨_, rfl⟩
  have z2 : Hid (S2.size ≤ 1000000) := Lib.hid (by rw [hS2, ofL_size]; exact hlen)
  have HS2 := Lib.hid hS2
  have HC : Hid (∀ w', ShW w' → TreeR 0 w' (some ⟨b, off, none⟩) A' nd fs → Calls Tryd.prog 21 #[.agg #[.slice (some ⟨b, off, none⟩) m c, .slice A' k c'], .int .i64 (j : Int)] w' fun r w'' => r = .returned (.string S2) ∧ Keeps (fun _ => False) w' w'') := Lib.hid fun w' h1 h2 => by
    rw [HS2.out]
    exact hc _ w' h1 h2 HR.out
  clear hT hw ha hj hm hR hn hk h9 hc hlen hll hS2
  generalize lvE e = le at LC ⊢
  go_enter Tryd.func35, Tryd.ntmps35
  go_upto_region 1 with fail
  have ka := Keeps.one w (.cells #[.slice (some ⟨b, off, none⟩) m c, .slice A' k c'] 27)
  obtain ⟨P1, hP⟩ : ∃ X, X = w.heap.size := ⟨_, rfl⟩
  obtain ⟨w1, hw1⟩ : ∃ w1, w1 = w.alloc (.cells #[.slice (some ⟨b, off, none⟩) m c, .slice A' k c'] 27) := ⟨_, rfl⟩
  have HX1 : Hid (Loc w1 (fun _ => False) P1 [.slice (some ⟨b, off, none⟩) m c, .slice A' k c']) := Lib.hid (by rw [hw1, hP]; exact Loc.new (fun h => h) [.slice (some ⟨b, off, none⟩) m c, .slice A' k c'] 27)
  have HN1 := Lib.hid (HN.out.keep (hw1 ▸ ka))
  rw [← hP]
  rw [← hw1] at ka ⊢
  have K1 := Lib.hid ka
  have HT1 := Lib.hid (HT.out.keep ka)
  clear ka hw1 hP HT HN
  have x0 := HX1.out.cells 0 _ rfl
  have x1 := HX1.out.cells 1 _ rfl
  have CD := Lib.hid (HC.out w1 (HW.out.keep K1.out) HT1.out)
  go_wp2_with fail
  refine CD.out.mono ?_
  rintro e w3 ⟨rfl, k3⟩
  have K3 := Lib.hid (K1.out.trans k3 (fun _ _ h => h))
  have HX3 := Lib.hid (HX1.out.keeps k3)
  have HN3 := Lib.hid (HN1.out.keep k3)
  clear k3 x0 x1 HX1 HN1 HT1 K1 CD HC
  have x0 := HX3.out.cells 0 _ rfl
  have x1 := HX3.out.cells 1 _ rfl
  have c0 := HN3.out.c0
  have c1 := HN3.out.c1
  have c2 := HN3.out.c2
  have c3 := HN3.out.c3
  have c4 := HN3.out.c4
  rw [← HLL.out] at c4
  have LD := Lib.hid (LC.out w3)
  go_wp2_with fail
  refine LD.out.mono ?_
  rintro e w4 ⟨rfl, k4⟩
  have K4 := Lib.hid (K3.out.trans k4 (fun _ _ h => h))
  clear k4 LD LC K3 c0 c1 c2 c3 c4 x0 x1 HX3 HN3
  by_cases hlt : le < lv
  · have h1 : (le : Int) < (lv : Int) := by omega
    have h2 : decide ((le : Int) < (lv : Int)) = true := decide_eq_true h1
    have q1 : ¬ 9223372036854775807 < 1 + S2.size := by have := z2.out; omega
    have q2 : ¬ 9223372036854775807 < 1 + S2.size + 1 := by have := z2.out; omega
    have HM2 : Hid (({ data := #[40] } : ByteArray) ++ S2 ++ { data := #[41] } = ofL (parL (decide (le < lv)) (showE e))) := Lib.hid (of_list (by rw [HS2.out, decide_eq_true hlt]; simp [bap_list, ofL_list, parL]; done))
    clear hlt
    go_wp2_with fail
    go_ret
    exact ⟨by (rw [HM2.out]; first | done | rfl), K4.out⟩
  · have h1 : ¬ (le : Int) < (lv : Int) := by omega
    have h2 : decide ((le : Int) < (lv : Int)) = false := decide_eq_false h1
    have HM2 : Hid (S2 = ofL (parL (decide (le < lv)) (showE e))) := Lib.hid (by rw [HS2.out, decide_eq_false hlt]; rfl)
    clear hlt
    go_wp2_with fail
    go_ret
    exact ⟨by (rw [← HM2.out]; first | done | rfl), K4.out⟩
end Go.Proofs.YtgelggdgbmldiaaDoor

namespace Go.Proofs.YtgelggdgbmldiaaDoor
open Go Go.RowKit Go.Shelf
set_option linter.unusedVariables false
set_option linter.unusedSimpArgs false
set_option maxRecDepth 100000 in
set_option maxHeartbeats 16000000 in
theorem rx_bin2 (Q : List UInt8 → Prop) (nd : List Nd) (fs : List Fnc) (A A' : Option Addr) (m k c c' : Nat) (hm : m = nd.length) (s : List UInt8) (e f : Ex) (h2 : lvl s = 2) (hlen : s.length + (showE e).length + (showE f).length ≤ 1000000) (hce : RAC Q nd fs A A' m k c c' e) (hcf : RAC Q nd fs A A' m k c c' f) : RXC Q nd fs A A' m k c c' (.bin s e f) := by
  have HL := Lib.hid hlen
  have HC := Lib.hid hce
  have HD := Lib.hid hcf
  clear hlen hce hcf
  intro i w hw hT hR
  obtain ⟨x, y, ha, hs, hx, hy⟩ := hR
  obtain ⟨j, b, off, ln, a, cc, rfl, hj, rfl, hn⟩ := hT.node ha
  rw [← hm] at hj
  have hjI : (j : Int) < (m : Int) := by omega
  have hj0 : (0 : Int) ≤ (j : Int) := by omega
  have HT := Lib.hid hT
  have HX := Lib.hid hx
  have HY := Lib.hid hy
  have HS := Lib.hid hs
  have H2 := Lib.hid h2
  clear hx hy hs h2
  have HW := Lib.hid hw
  have HN := Lib.hid hn
  have HM := Lib.hid hm
  clear hT hw ha hj hm
  go_enter Tryd.func21, Tryd.ntmps21
  go_upto_region 1 with fail
  have ka := Keeps.one w (.cells #[.slice (some ⟨b, off, none⟩) m c, .slice A' k c'] 27)
  obtain ⟨P1, hP1⟩ : ∃ X, X = w.heap.size := ⟨_, rfl⟩
  obtain ⟨w1, hw1⟩ : ∃ w1, w1 = w.alloc (.cells #[.slice (some ⟨b, off, none⟩) m c, .slice A' k c'] 27) := ⟨_, rfl⟩
  have HX1 : Hid (Loc w1 (fun _ => False) P1 [.slice (some ⟨b, off, none⟩) m c, .slice A' k c']) := Lib.hid (by rw [hw1, hP1]; exact Loc.new (fun h => h) [.slice (some ⟨b, off, none⟩) m c, .slice A' k c'] 27)
  have HN1 := Lib.hid (HN.out.keep (hw1 ▸ ka))
  rw [← hP1]
  rw [← hw1] at ka ⊢
  have K1 := Lib.hid ka
  have HT1 := Lib.hid (HT.out.keep ka)
  clear ka hw1 hP1 HT HN
  have x0 := HX1.out.cells 0 _ rfl
  have x1 := HX1.out.cells 1 _ rfl
  have c0 := HN1.out.c0
  have c1 := HN1.out.c1
  have c2 := HN1.out.c2
  have c3 := HN1.out.c3
  have c4 : w1.cell? ⟨b, off + j * 5 + 4, none⟩ = some (.slice a 2 cc) := HN1.out.c4
  go_upto_region 2 with fail
  have ka := Keeps.one w1 (.cells #[.int .i64 9, .int .i64 ln, .int .i64 0, .string (ofL s), .slice a 2 cc] 33)
  obtain ⟨P2, hP2⟩ : ∃ X, X = w1.heap.size := ⟨_, rfl⟩
  obtain ⟨w2, hw2⟩ : ∃ w2, w2 = w1.alloc (.cells #[.int .i64 9, .int .i64 ln, .int .i64 0, .string (ofL s), .slice a 2 cc] 33) := ⟨_, rfl⟩
  have HY2 : Hid (Loc w2 (fun _ => False) P2 [.int .i64 9, .int .i64 ln, .int .i64 0, .string (ofL s), .slice a 2 cc]) := Lib.hid (by rw [hw2, hP2]; exact Loc.new (fun h => h) [.int .i64 9, .int .i64 ln, .int .i64 0, .string (ofL s), .slice a 2 cc] 33)
  rw [← hP2]
  rw [← hw2] at ka ⊢
  have HX2 := Lib.hid (HX1.out.keeps ka)
  have HT2 := Lib.hid (HT1.out.keep ka)
  have HN2 := Lib.hid (HN1.out.keep ka)
  have K2 := Lib.hid (K1.out.trans ka (fun _ _ h => h))
  clear ka hw2 hP2 x0 x1 c0 c1 c2 c3 c4 HX1 HT1 HN1 K1
  have x0 := HX2.out.cells 0 _ rfl
  have x1 := HX2.out.cells 1 _ rfl
  have y0 := HY2.out.cells 0 _ rfl
  have y2 := HY2.out.cells 2 _ rfl
  have y3 := HY2.out.cells 3 _ rfl
  have y4 := HY2.out.cells 4 _ rfl
  obtain ⟨b0, o0, rfl, kc⟩ := HN2.out.ro.get (k := 0) (by simp) (x := x) rfl
  obtain ⟨b1, o1, ea1, kd⟩ := HN2.out.ro.get (k := 1) (by simp) (x := y) rfl
  cases ea1
  have kc : w2.cell? ⟨b0, o0, none⟩ = some (.int .i64 x) := kc
  obtain ⟨kv, hkv⟩ : ∃ n, n = lvl s := ⟨_, rfl⟩
  have hk4 : kv ≤ 4 := by
    rw [hkv]
    unfold lvl
    repeat' split
    all_goals omega
  have HKV := Lib.hid hkv
  have LC : Hid (Calls Tryd.prog 19 #[.agg #[.int .i64 9, .int .i64 ln, .int .i64 0, .string (ofL s), .slice (some ⟨b0, o0, none⟩) 2 cc]] w2 fun r w'' => r = .returned (.int .i64 (kv : Int)) ∧ Keeps (fun _ => False) w2 w'') := Lib.hid (by
    have h := rlevel_any 9 ln 0 s (some ⟨b0, o0, none⟩) 2 cc w2 (fun _ => HS.out)
    rw [show levK 9 s = kv by rw [HKV.out]; rfl] at h
    exact h)
  have y1 := HY2.out.cells 1 _ rfl
  clear hkv
  go_upto_region 22 with fail
  go_wp2_with fail
  refine LC.out.mono ?_
  rintro r w3 ⟨rfl, k3⟩
  have K3 := Lib.hid (K2.out.trans k3 (fun _ _ h => h))
  have HX3 := Lib.hid (HX2.out.keeps k3)
  have HY3 := Lib.hid (HY2.out.keeps k3)
  have HT3 := Lib.hid (HT2.out.keep k3)
  have HN3 := Lib.hid (HN2.out.keep k3)
  have kc := (k3.cell (cell_ltk kc) (fun h => h)).trans kc
  have kd := (k3.cell (cell_ltk kd) (fun h => h)).trans kd
  clear k3 LC x0 x1 y0 y1 y2 y3 y4 HX2 HY2 HT2 HN2 K2
  have x0 := HX3.out.cells 0 _ rfl
  have x1 := HX3.out.cells 1 _ rfl
  have y3 := HY3.out.cells 3 _ rfl
  have y4 := HY3.out.cells 4 _ rfl
  obtain rfl : kv = 2 := by rw [HKV.out]; exact H2.out
  have wk3 : IntKind.i64.wrap 3 = 3 := by decide
  obtain ⟨S1, hS1⟩ : ∃ S, S = ofL s := ⟨_, rfl⟩
  have z1 : Hid (S1.size = s.length) := Lib.hid (by rw [hS1]; exact ofL_size _)
  have HS1 := Lib.hid hS1
  rw [← hS1] at y3
  obtain ⟨S2, hS2⟩ : ∃ S, S = ofL (parL (decide (lvE e < 3)) (showE e)) := ⟨_, rfl⟩
  have z2 : Hid (S2.size ≤ (showE e).length + 2) := Lib.hid (by rw [hS2, ofL_size]; exact parL_len _ _)
  have HS2 := Lib.hid hS2
  obtain ⟨S3, hS3⟩ : ∃ S, S = ofL (parL (decide (lvE f < 3)) (showE f)) := ⟨_, rfl⟩
  have z3 : Hid (S3.size ≤ (showE f).length + 2) := Lib.hid (by rw [hS3, ofL_size]; exact parL_len _ _)
  have HS3 := Lib.hid hS3
  have CH : Hid (∀ w', Keeps (fun _ => False) w3 w' → Calls Tryd.prog 35 #[.agg #[.slice (some ⟨b, off, none⟩) m c, .slice A' k c'], .int .i64 x, .int .i64 3] w' fun r w'' => r = .returned (.string S2) ∧ Keeps (fun _ => False) w3 w'') := Lib.hid (fun w' q => by
    rw [HS2.out]
    exact (HC.out x 3 w' (HW.out.keep (K3.out.trans q (fun _ _ h => h))) (HT3.out.keep q) HX.out (by omega)).mono fun r w'' ⟨h1, h2⟩ => ⟨h1, q.trans h2 (fun _ _ h => h)⟩)
  have DH : Hid (∀ w', Keeps (fun _ => False) w3 w' → Calls Tryd.prog 35 #[.agg #[.slice (some ⟨b, off, none⟩) m c, .slice A' k c'], .int .i64 y, .int .i64 3] w' fun r w'' => r = .returned (.string S3) ∧ Keeps (fun _ => False) w3 w'') := Lib.hid (fun w' q => by
    rw [HS3.out]
    exact (HD.out y 3 w' (HW.out.keep (K3.out.trans q (fun _ _ h => h))) (HT3.out.keep q) HY.out (by omega)).mono fun r w'' ⟨h1, h2⟩ => ⟨h1, q.trans h2 (fun _ _ h => h)⟩)
  have q0 : ¬ 9223372036854775807 < S2.size + S1.size := by have h1 := HL.out; have h2 := z1.out; have h3 := z2.out; omega
  have q1 : ¬ 9223372036854775807 < S2.size + S1.size + S3.size := by have h1 := HL.out; have h2 := z1.out; have h3 := z2.out; have h4 := z3.out; omega
  have HM2 : Hid (S2 ++ S1 ++ S3 = ofL (showE (.bin s e f))) := Lib.hid (of_list (by
    rw [bap_list, bap_list, HS1.out, HS2.out, HS3.out, ofL_list, ofL_list, ofL_list]
    show _ = parL (decide (lvE e < leftL (lvl s))) (showE e) ++ (s ++ parL (decide (lvE f < lvl s + 1)) (showE f))
    rw [← HKV.out, List.append_assoc]
    rfl))
  have SK : Hid (∀ w', Keeps (fun _ => False) w3 w' → (w'.cell? ⟨P1, 0, none⟩ = some ((.slice (some ⟨b, off, none⟩) m c)) ∧ w'.cell? ⟨P1, 1, none⟩ = some ((.slice A' k c')) ∧ w'.cell? ⟨P2, 3, none⟩ = some (.string S1) ∧ w'.cell? ⟨P2, 4, none⟩ = some (.slice (some ⟨b0, o0, none⟩) 2 cc) ∧ w'.cell? ⟨b0, o0, none⟩ = some (.int .i64 x) ∧ w'.cell? ⟨b0, (o0 + 1), none⟩ = some (.int .i64 y)) ∧ Keeps (fun _ => False) w3 w') := Lib.hid (fun w' q => ⟨⟨(q.cell (cell_ltk x0) (fun h => h)).trans x0, (q.cell (cell_ltk x1) (fun h => h)).trans x1, (q.cell (cell_ltk y3) (fun h => h)).trans y3, (q.cell (cell_ltk y4) (fun h => h)).trans y4, (q.cell (cell_ltk kc) (fun h => h)).trans kc, (q.cell (cell_ltk kd) (fun h => h)).trans kd⟩, q⟩)
  clear hS1 hS2 hS3
  go_upto_region 26 with fail
  go_region_held3 (fun w' => (w'.cell? ⟨P1, 0, none⟩ = some ((.slice (some ⟨b, off, none⟩) m c)) ∧ w'.cell? ⟨P1, 1, none⟩ = some ((.slice A' k c')) ∧ w'.cell? ⟨P2, 3, none⟩ = some (.string S1) ∧ w'.cell? ⟨P2, 4, none⟩ = some (.slice (some ⟨b0, o0, none⟩) 2 cc) ∧ w'.cell? ⟨b0, o0, none⟩ = some (.int .i64 x) ∧ w'.cell? ⟨b0, (o0 + 1), none⟩ = some (.int .i64 y)) ∧ Keeps (fun _ => False) w3 w') (first | exact SK.out _ (Keeps.refl _ _) | exact SK.out _ (by assumption) | exact SK.out _ ((Keeps.refl _ _).drew) | exact SK.out _ (Keeps.drew (by assumption))) (first | (go_at_call 35; first | (with_reducible refine (CH.out _ (by first | assumption | exact (Keeps.refl _ _).drew | exact Keeps.drew (by assumption) | exact Keeps.refl _ _)).mono ?_; rintro r w4 ⟨rfl, k4⟩) | (with_reducible refine (DH.out _ (by first | assumption | exact (Keeps.refl _ _).drew | exact Keeps.drew (by assumption) | exact Keeps.refl _ _)).mono ?_; rintro r w4 ⟨rfl, k4⟩)))
  all_goals go_wp2_with fail
  all_goals go_ret
  all_goals exact ⟨by (rw [HM2.out]; first | done | rfl), K3.out.trans (by first | assumption | exact Keeps.drew (by assumption)) (fun _ _ h => h)⟩
end Go.Proofs.YtgelggdgbmldiaaDoor

namespace Go.Proofs.YtgelggdgbmldiaaDoor
open Go Go.RowKit Go.Shelf
set_option linter.unusedVariables false
set_option linter.unusedSimpArgs false
set_option maxRecDepth 100000 in
set_option maxHeartbeats 16000000 in
theorem rx_binx (Q : List UInt8 → Prop) (nd : List Nd) (fs : List Fnc) (A A' : Option Addr) (m k c c' : Nat) (hm : m = nd.length) (s : List UInt8) (e f : Ex) (h2 : ¬ lvl s = 2) (hlen : s.length + (showE e).length + (showE f).length ≤ 1000000) (hce : RAC Q nd fs A A' m k c c' e) (hcf : RAC Q nd fs A A' m k c c' f) : RXC Q nd fs A A' m k c c' (.bin s e f) := by
  have HL := Lib.hid hlen
  have HC := Lib.hid hce
  have HD := Lib.hid hcf
  clear hlen hce hcf
  intro i w hw hT hR
  obtain ⟨x, y, ha, hs, hx, hy⟩ := hR
  obtain ⟨j, b, off, ln, a, cc, rfl, hj, rfl, hn⟩ := hT.node ha
  rw [← hm] at hj
  have hjI : (j : Int) < (m : Int) := by omega
  have hj0 : (0 : Int) ≤ (j : Int) := by omega
  have HT := Lib.hid hT
  have HX := Lib.hid hx
  have HY := Lib.hid hy
  have HS := Lib.hid hs
  have H2 := Lib.hid h2
  clear hx hy hs h2
  have HW := Lib.hid hw
  have HN := Lib.hid hn
  have HM := Lib.hid hm
  clear hT hw ha hj hm
  go_enter Tryd.func21, Tryd.ntmps21
  go_upto_region 1 with fail
  have ka := Keeps.one w (.cells #[.slice (some ⟨b, off, none⟩) m c, .slice A' k c'] 27)
  obtain ⟨P1, hP1⟩ : ∃ X, X = w.heap.size := ⟨_, rfl⟩
  obtain ⟨w1, hw1⟩ : ∃ w1, w1 = w.alloc (.cells #[.slice (some ⟨b, off, none⟩) m c, .slice A' k c'] 27) := ⟨_, rfl⟩
  have HX1 : Hid (Loc w1 (fun _ => False) P1 [.slice (some ⟨b, off, none⟩) m c, .slice A' k c']) := Lib.hid (by rw [hw1, hP1]; exact Loc.new (fun h => h) [.slice (some ⟨b, off, none⟩) m c, .slice A' k c'] 27)
  have HN1 := Lib.hid (HN.out.keep (hw1 ▸ ka))
  rw [← hP1]
  rw [← hw1] at ka ⊢
  have K1 := Lib.hid ka
  have HT1 := Lib.hid (HT.out.keep ka)
  clear ka hw1 hP1 HT HN
  have x0 := HX1.out.cells 0 _ rfl
  have x1 := HX1.out.cells 1 _ rfl
  have c0 := HN1.out.c0
  have c1 := HN1.out.c1
  have c2 := HN1.out.c2
  have c3 := HN1.out.c3
  have c4 : w1.cell? ⟨b, off + j * 5 + 4, none⟩ = some (.slice a 2 cc) := HN1.out.c4
  go_upto_region 2 with fail
  have ka := Keeps.one w1 (.cells #[.int .i64 9, .int .i64 ln, .int .i64 0, .string (ofL s), .slice a 2 cc] 33)
  obtain ⟨P2, hP2⟩ : ∃ X, X = w1.heap.size := ⟨_, rfl⟩
  obtain ⟨w2, hw2⟩ : ∃ w2, w2 = w1.alloc (.cells #[.int .i64 9, .int .i64 ln, .int .i64 0, .string (ofL s), .slice a 2 cc] 33) := ⟨_, rfl⟩
  have HY2 : Hid (Loc w2 (fun _ => False) P2 [.int .i64 9, .int .i64 ln, .int .i64 0, .string (ofL s), .slice a 2 cc]) := Lib.hid (by rw [hw2, hP2]; exact Loc.new (fun h => h) [.int .i64 9, .int .i64 ln, .int .i64 0, .string (ofL s), .slice a 2 cc] 33)
  rw [← hP2]
  rw [← hw2] at ka ⊢
  have HX2 := Lib.hid (HX1.out.keeps ka)
  have HT2 := Lib.hid (HT1.out.keep ka)
  have HN2 := Lib.hid (HN1.out.keep ka)
  have K2 := Lib.hid (K1.out.trans ka (fun _ _ h => h))
  clear ka hw2 hP2 x0 x1 c0 c1 c2 c3 c4 HX1 HT1 HN1 K1
  have x0 := HX2.out.cells 0 _ rfl
  have x1 := HX2.out.cells 1 _ rfl
  have y0 := HY2.out.cells 0 _ rfl
  have y2 := HY2.out.cells 2 _ rfl
  have y3 := HY2.out.cells 3 _ rfl
  have y4 := HY2.out.cells 4 _ rfl
  obtain ⟨b0, o0, rfl, kc⟩ := HN2.out.ro.get (k := 0) (by simp) (x := x) rfl
  obtain ⟨b1, o1, ea1, kd⟩ := HN2.out.ro.get (k := 1) (by simp) (x := y) rfl
  cases ea1
  have kc : w2.cell? ⟨b0, o0, none⟩ = some (.int .i64 x) := kc
  obtain ⟨kv, hkv⟩ : ∃ n, n = lvl s := ⟨_, rfl⟩
  have hk4 : kv ≤ 4 := by
    rw [hkv]
    unfold lvl
    repeat' split
    all_goals omega
  have HKV := Lib.hid hkv
  have LC : Hid (Calls Tryd.prog 19 #[.agg #[.int .i64 9, .int .i64 ln, .int .i64 0, .string (ofL s), .slice (some ⟨b0, o0, none⟩) 2 cc]] w2 fun r w'' => r = .returned (.int .i64 (kv : Int)) ∧ Keeps (fun _ => False) w2 w'') := Lib.hid (by
    have h := rlevel_any 9 ln 0 s (some ⟨b0, o0, none⟩) 2 cc w2 (fun _ => HS.out)
    rw [show levK 9 s = kv by rw [HKV.out]; rfl] at h
    exact h)
  have y1 := HY2.out.cells 1 _ rfl
  clear hkv
  go_upto_region 22 with fail
  go_wp2_with fail
  refine LC.out.mono ?_
  rintro r w3 ⟨rfl, k3⟩
  have K3 := Lib.hid (K2.out.trans k3 (fun _ _ h => h))
  have HX3 := Lib.hid (HX2.out.keeps k3)
  have HY3 := Lib.hid (HY2.out.keeps k3)
  have HT3 := Lib.hid (HT2.out.keep k3)
  have HN3 := Lib.hid (HN2.out.keep k3)
  have kc := (k3.cell (cell_ltk kc) (fun h => h)).trans kc
  have kd := (k3.cell (cell_ltk kd) (fun h => h)).trans kd
  clear k3 LC x0 x1 y0 y1 y2 y3 y4 HX2 HY2 HT2 HN2 K2
  have x0 := HX3.out.cells 0 _ rfl
  have x1 := HX3.out.cells 1 _ rfl
  have y3 := HY3.out.cells 3 _ rfl
  have y4 := HY3.out.cells 4 _ rfl
  have hne : ¬ (kv : Int) = 2 := by have h1 := HKV.out; have h2 := H2.out; omega
  have hned : ((kv : Int) == 2) = false := by simpa using hne
  have wk2 : IntKind.i64.wrap ((kv : Int) + 1) = (kv : Int) + 1 := IntWalk.i64_in _ (by omega)
  obtain ⟨S1, hS1⟩ : ∃ S, S = ofL s := ⟨_, rfl⟩
  have z1 : Hid (S1.size = s.length) := Lib.hid (by rw [hS1]; exact ofL_size _)
  have HS1 := Lib.hid hS1
  rw [← hS1] at y3
  obtain ⟨S2, hS2⟩ : ∃ S, S = ofL (parL (decide (lvE e < kv)) (showE e)) := ⟨_, rfl⟩
  have z2 : Hid (S2.size ≤ (showE e).length + 2) := Lib.hid (by rw [hS2, ofL_size]; exact parL_len _ _)
  have HS2 := Lib.hid hS2
  obtain ⟨S3, hS3⟩ : ∃ S, S = ofL (parL (decide (lvE f < (kv + 1))) (showE f)) := ⟨_, rfl⟩
  have z3 : Hid (S3.size ≤ (showE f).length + 2) := Lib.hid (by rw [hS3, ofL_size]; exact parL_len _ _)
  have HS3 := Lib.hid hS3
  have CH : Hid (∀ w', Keeps (fun _ => False) w3 w' → Calls Tryd.prog 35 #[.agg #[.slice (some ⟨b, off, none⟩) m c, .slice A' k c'], .int .i64 x, .int .i64 (kv : Int)] w' fun r w'' => r = .returned (.string S2) ∧ Keeps (fun _ => False) w3 w'') := Lib.hid (fun w' q => by
    rw [HS2.out]
    exact (HC.out x kv w' (HW.out.keep (K3.out.trans q (fun _ _ h => h))) (HT3.out.keep q) HX.out (by omega)).mono fun r w'' ⟨h1, h2⟩ => ⟨h1, q.trans h2 (fun _ _ h => h)⟩)
  have DH : Hid (∀ w', Keeps (fun _ => False) w3 w' → Calls Tryd.prog 35 #[.agg #[.slice (some ⟨b, off, none⟩) m c, .slice A' k c'], .int .i64 y, .int .i64 ((kv : Int) + 1)] w' fun r w'' => r = .returned (.string S3) ∧ Keeps (fun _ => False) w3 w'') := Lib.hid (fun w' q => by
    rw [HS3.out]
    exact (HD.out y (kv + 1) w' (HW.out.keep (K3.out.trans q (fun _ _ h => h))) (HT3.out.keep q) HY.out (by omega)).mono fun r w'' ⟨h1, h2⟩ => ⟨h1, q.trans h2 (fun _ _ h => h)⟩)
  have q0 : ¬ 9223372036854775807 < S2.size + S1.size := by have h1 := HL.out; have h2 := z1.out; have h3 := z2.out; omega
  have q1 : ¬ 9223372036854775807 < S2.size + S1.size + S3.size := by have h1 := HL.out; have h2 := z1.out; have h3 := z2.out; have h4 := z3.out; omega
  have HM2 : Hid (S2 ++ S1 ++ S3 = ofL (showE (.bin s e f))) := Lib.hid (of_list (by
    rw [bap_list, bap_list, HS1.out, HS2.out, HS3.out, ofL_list, ofL_list, ofL_list]
    show _ = parL (decide (lvE e < leftL (lvl s))) (showE e) ++ (s ++ parL (decide (lvE f < lvl s + 1)) (showE f))
    rw [← HKV.out, List.append_assoc]
    rw [show leftL kv = kv from if_neg (by omega)]))
  have SK : Hid (∀ w', Keeps (fun _ => False) w3 w' → (w'.cell? ⟨P1, 0, none⟩ = some ((.slice (some ⟨b, off, none⟩) m c)) ∧ w'.cell? ⟨P1, 1, none⟩ = some ((.slice A' k c')) ∧ w'.cell? ⟨P2, 3, none⟩ = some (.string S1) ∧ w'.cell? ⟨P2, 4, none⟩ = some (.slice (some ⟨b0, o0, none⟩) 2 cc) ∧ w'.cell? ⟨b0, o0, none⟩ = some (.int .i64 x) ∧ w'.cell? ⟨b0, (o0 + 1), none⟩ = some (.int .i64 y)) ∧ Keeps (fun _ => False) w3 w') := Lib.hid (fun w' q => ⟨⟨(q.cell (cell_ltk x0) (fun h => h)).trans x0, (q.cell (cell_ltk x1) (fun h => h)).trans x1, (q.cell (cell_ltk y3) (fun h => h)).trans y3, (q.cell (cell_ltk y4) (fun h => h)).trans y4, (q.cell (cell_ltk kc) (fun h => h)).trans kc, (q.cell (cell_ltk kd) (fun h => h)).trans kd⟩, q⟩)
  clear hS1 hS2 hS3
  go_upto_region 26 with fail
  go_region_held3 (fun w' => (w'.cell? ⟨P1, 0, none⟩ = some ((.slice (some ⟨b, off, none⟩) m c)) ∧ w'.cell? ⟨P1, 1, none⟩ = some ((.slice A' k c')) ∧ w'.cell? ⟨P2, 3, none⟩ = some (.string S1) ∧ w'.cell? ⟨P2, 4, none⟩ = some (.slice (some ⟨b0, o0, none⟩) 2 cc) ∧ w'.cell? ⟨b0, o0, none⟩ = some (.int .i64 x) ∧ w'.cell? ⟨b0, (o0 + 1), none⟩ = some (.int .i64 y)) ∧ Keeps (fun _ => False) w3 w') (first | exact SK.out _ (Keeps.refl _ _) | exact SK.out _ (by assumption) | exact SK.out _ ((Keeps.refl _ _).drew) | exact SK.out _ (Keeps.drew (by assumption))) (first | (go_at_call 35; first | (with_reducible refine (CH.out _ (by first | assumption | exact (Keeps.refl _ _).drew | exact Keeps.drew (by assumption) | exact Keeps.refl _ _)).mono ?_; rintro r w4 ⟨rfl, k4⟩) | (with_reducible refine (DH.out _ (by first | assumption | exact (Keeps.refl _ _).drew | exact Keeps.drew (by assumption) | exact Keeps.refl _ _)).mono ?_; rintro r w4 ⟨rfl, k4⟩)))
  all_goals go_wp2_with fail
  all_goals go_ret
  all_goals exact ⟨by (rw [HM2.out]; first | done | rfl), K3.out.trans (by first | assumption | exact Keeps.drew (by assumption)) (fun _ _ h => h)⟩
end Go.Proofs.YtgelggdgbmldiaaDoor
