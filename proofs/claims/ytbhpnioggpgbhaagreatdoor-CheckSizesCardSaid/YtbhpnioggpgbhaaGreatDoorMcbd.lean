/-
 Layer 4: the program's method function. Written by an AI agent.
 Layer 4: the program's heads. Written by an AI agent.
 Layer 4: named and let as contracts. Written by an AI agent.
 Layer 4: tells as contracts. Written by an AI agent.
-/
import Derived.Test.YtbhpnioggpgbhaaGreatDoorMcbc
namespace Go.Proofs.YtbhpnioggpgbhaaGreatDoor
open Go Go.RowKit Go.Shelf
set_option linter.unusedVariables false
set_option linter.unusedSimpArgs false
/-- A function's params. -/
inductive PsI (q : CkQ) (body : Int) (f : Nat) : List (List UInt8 × Int) → CkS → RS → Prop
 | nil (s : CkS) : PsI q body f [] s (.ok s)
 | bad (p : List UInt8 × Int) (l : List (List UInt8 × Int)) (s : CkS) (v : Vb) : s.V.length ≤ 1000 → lookV s.V p.1 = some v → PsI q body f (p :: l) s (.error (body, 41))
 | ok (p : List UInt8 × Int) (l : List (List UInt8 × Int)) (s : CkS) (r : RS) (N : Nat) : s.V.length ≤ 1000 → lookV s.V p.1 = none → s.sz[f]? = some (N : Int) → N ≤ 1000 → s.fn = (f : Int) → f < q.k → PsI q body f l { s with sz := s.sz.set f ((N : Int) + 1), V := s.V ++ [⟨p.1, p.2, (N : Int)⟩] } r → PsI q body f (p :: l) s r
theorem OutC.trans {q : CkQ} {nd : List Nd} {fs : List Fnc} {w0 : World} {R R1 : Nat → Prop} {w w1 w' : World} {r : RS} {e : Ending} (h : OutC q nd fs w0 R1 w1 r e w') (f : Fr R w R1 w1) : OutC q nd fs w0 R w r e w' := by
 obtain ⟨R', s', a, b, c⟩ := h
 exact ⟨R', s', a, f.trans b, c⟩
theorem OutC.bool {q : CkQ} {nd : List Nd} {fs : List Fnc} {w0 : World} {R : Nat → Prop} {w w' : World} {r : RS} {e : Ending} (h : OutC q nd fs w0 R w r e w') : ∃ b, e = .returned (.bool b) := by
 obtain ⟨_, _, _, _, c⟩ := h
 cases r with
 | ok s => exact ⟨true, c.1⟩
 | error z => exact ⟨false, c.1⟩
set_option maxRecDepth 100000 in
set_option maxHeartbeats 16000000 in
theorem pfunctionC {q : CkQ} {nd : List Nd} {fs : List Fnc} {w0 : World} {s : CkS} (f : Nat) (F : Fnc) (hF : fs[f]? = some F) (hp6 : F.ps.length ≤ 1000) (r1 r : RS) (hq : PsI q F.body f F.ps { s with fn := (f : Int), V := [] } r1) (hr : (∃ z, r1 = .error z ∧ r = .error z) ∨ (∃ s1, r1 = .ok s1 ∧ BlkC q nd fs w0 F.body s1 r)) (w : World) (R : Nat → Prop) (h : Ck w q nd fs w0 R s) :
  Calls Tryz.prog 28 #[.pointer (some ⟨q.P, 0, none⟩), .int .i64 f] w (OutC q nd fs w0 R w r) := by
 have HH := Lib.hid h
 obtain ⟨v, hx⟩ := h
 obtain ⟨hfl, hfe⟩ := List.getElem?_eq_some_iff.1 hF
 obtain ⟨fb, fo, hA, hc⟩ := hx.tree.fnAt (by omega)
 obtain ⟨fa, fc, d0, d1, d2, d3, d4, d5⟩ := hc f hfl
 rw [hfe] at d0 d1 d2 d3 d4 d5
 replace d0 := (hx.up.cell (cell_ltk d0) (by have := cell_ltk d0; omega)).trans d0
 replace d1 := (hx.up.cell (cell_ltk d1) (by have := cell_ltk d1; omega)).trans d1
 replace d2 := (hx.up.cell (cell_ltk d2) (by have := cell_ltk d2; omega)).trans d2
 replace d3 := (hx.up.cell (cell_ltk d3) (by have := cell_ltk d3; omega)).trans d3
 replace d4 := (hx.up.cell (cell_ltk d4) (by have := cell_ltk d4; omega)).trans d4
 have c1 := hx.c1
 have c6 := hx.c6
 have c7 := hx.c7
 have z6 := hx.fz 6
 have z7 := hx.fz 7
 rw [hA] at c1
 have hfk : (f : Int) < (q.k : Int) := by rw [hx.hk]; omega
 have hf0 : (0 : Int) ≤ (f : Int) := by omega
 obtain ⟨P, hPP⟩ : ∃ P, P = q.P := ⟨_, rfl⟩
 obtain ⟨KN, hKN⟩ : ∃ P, P = q.k := ⟨_, rfl⟩
 obtain ⟨cd, hcd⟩ : ∃ P, P = q.c' := ⟨_, rfl⟩
 rw [← hPP, ← hKN, ← hcd] at c1
 rw [← hPP] at c6 c7 z6 z7
 rw [← hKN] at hfk
 rw [← hPP]
 have HP := Lib.hid hPP
 obtain ⟨SF, hSF⟩ : ∃ t, t = ofL F.s := ⟨_, rfl⟩
 obtain ⟨fl, hfl'⟩ : ∃ t, t = F.ln := ⟨_, rfl⟩
 obtain ⟨m, hm⟩ : ∃ t, t = F.ps.length := ⟨_, rfl⟩
 obtain ⟨rt, hrt⟩ : ∃ t, t = F.ret := ⟨_, rfl⟩
 obtain ⟨bd, hbd⟩ : ∃ t, t = F.body := ⟨_, rfl⟩
 obtain ⟨PS, hPS⟩ : ∃ t, t = F.ps := ⟨_, rfl⟩
 rw [← hSF] at d0
 rw [← hfl'] at d1
 rw [← hm] at d2 hp6
 rw [← hrt] at d3
 rw [← hbd] at d4 hq hr
 rw [← hPS] at d5 hq hm
 have HM := Lib.hid hm
 have HD5 := Lib.hid d5
 have HQ := Lib.hid hq
 have HR := Lib.hid hr
 have hPlt : P < w.heap.size := by rw [hPP]; exact hx.lt _ hx.rP
 have HNR : Hid (¬ R w.heap.size) := Lib.hid HH.out.new
 clear hx hA hc hfl hfe hF hPP hKN hcd hSF hfl' hm hrt hbd hPS d5 hq hr
 go_enter Tryz.func28, Tryz.ntmps28
 go_upto_region 2 with fail
 obtain ⟨P5, hP5⟩ : ∃ X, X = w.heap.size := ⟨_, rfl⟩
 obtain ⟨w1, hw1⟩ : ∃ w1, w1 = w.alloc (.cells #[.string SF, .int .i64 fl, .slice fa m fc, .int .i64 rt, .int .i64 bd] 49) := ⟨_, rfl⟩
 have ka := Keeps.one w (.cells #[.string SF, .int .i64 fl, .slice fa m fc, .int .i64 rt, .int .i64 bd] 49)
 have L1 : Loc w1 R P5 [.string SF, .int .i64 fl, .slice fa m fc, .int .i64 rt, .int .i64 bd] := by rw [hw1, hP5]; exact Loc.new HNR.out [.string SF, .int .i64 fl, .slice fa m fc, .int .i64 rt, .int .i64 bd] 49
 rw [← hP5]
 rw [← hw1] at ka ⊢
 have e6 := (ka.cell hPlt (fun h => h)).trans c6
 have e7 := (ka.cell hPlt (fun h => h)).trans c7
 have g6 := (ka.frozen hPlt (fun h => h)).trans z6
 have g7 := (ka.frozen hPlt (fun h => h)).trans z7
 have hc1 := HH.out.keep ka
 have hs1 := hc1.setFn (f : Int)
 obtain ⟨v2, hx2⟩ := hs1.1
 have hs2 := hx2.setV [] (.slice none 0 0) (World.ownsRow_nil _ _ _ _) (fun g hg => by simp [Value.ownBlock] at hg)
 rw [← HP.out] at hs2
 have hf1 := ((Fr.refl R w).keeps ka).trans (hs1.2)
 rw [← HP.out] at hf1
 have HC2 : Hid (Ck ((w1.setCell ⟨P, 7, none⟩ (.int .i64 f)).setCell ⟨P, 6, none⟩ (.slice none 0 0)) q nd fs w0 R { s with fn := (f : Int), V := [] }) := Lib.hid (by have h := hs2.1; rw [HP.out] at h ⊢; exact ⟨_, h⟩)
 have hf12 : Fr R w1 R ((w1.setCell ⟨P, 7, none⟩ (.int .i64 f)).setCell ⟨P, 6, none⟩ (.slice none 0 0)) := by have h1 := hs1.2; have h2 := hs2.2; rw [HP.out] at h2 ⊢; exact h1.trans h2
 have HF2 := Lib.hid (((Fr.refl R w).keeps ka).trans hf12)
 have HL2 := Lib.hid (L1.keep hf12)
 clear ka hw1 hP5 L1 c1 c6 c7 z6 z7 d0 d1 d2 d3 d4 hc1 hs1 hx2 hs2 hf1 hf12 hPlt
 go_upto_region 3 with fail
 generalize (w1.setCell ⟨P, 7, none⟩ (.int .i64 f)).setCell ⟨P, 6, none⟩ (.slice none 0 0) = w2 at HC2 HF2 HL2 ⊢
 clear e6 e7 g6 g7
 have b2 := HL2.out.cells 2 _ rfl
 go_wp2_with fail
 go_loopg [7, 8, 9, 29] (m + 1) (fun gq s7 s8 s9 s29 wr => ∃ (i : Nat) (R' : Nat → Prop) (s' : CkS), s29 = .int .i64 i ∧ i + gq = m + 1 ∧ i ≤ m ∧ Ck wr q nd fs w0 R' s' ∧ Loc wr R' P5 [.string SF, .int .i64 fl, .slice fa m fc, .int .i64 rt, .int .i64 bd] ∧ Fr R w R' wr ∧ PsI q bd f (PS.drop i) s' r1)
 case atStart => exact ⟨0, R, _, rfl, by omega, by omega, HC2.out, HL2.out, HF2.out, HQ.out⟩
 case round =>
  obtain ⟨i, R', s', rfl, hiq, hin1, hck, hlc5, hfr, hseq⟩ := hrel
  have HIQ := Lib.hid hiq
  have HCK := Lib.hid hck
  have HLr := Lib.hid hlc5
  have HFR := Lib.hid hfr
  have HSQ := Lib.hid hseq
  clear hiq hck hfr hseq hlc5 b2
  by_cases hin : i < m
  ·have hI : (i : Int) < (m : Int) := by omega
   have hdI : decide ((i : Int) < (m : Int)) = true := decide_eq_true hI
   have hi0 : (0 : Int) ≤ (i : Int) := by omega
   have wi : IntKind.i64.wrap ((i : Int) + 1) = (i : Int) + 1 := IntWalk.i64_in _ (by omega)
   have HIN := Lib.hid hin
   have hil : i < PS.length := by rw [← HM.out]; exact hin
   obtain ⟨pr, hpr⟩ : ∃ pr, pr = PS[i] := ⟨_, rfl⟩
   have hpr' : PS[i]? = some pr := by rw [hpr]; exact List.getElem?_eq_getElem hil
   obtain ⟨g0, g1⟩ := flatP2 PS i pr hpr'
   obtain ⟨pb, po, hfa, hpc⟩ := HD5.out (by rw [flatP_length]; omega)
   have v0 := hpc _ _ g0
   have v1 := hpc _ _ g1
   obtain ⟨v9, hx9⟩ := HCK.out
   replace v0 := (hx9.up.cell (cell_ltk v0) (by have := cell_ltk v0; omega)).trans v0
   replace v1 := (hx9.up.cell (cell_ltk v1) (by have := cell_ltk v1; omega)).trans v1
   rw [← Nat.add_assoc] at v1
   have hd : PS.drop i = pr :: PS.drop (i + 1) := by rw [hpr]; exact List.drop_eq_getElem_cons hil
   obtain ⟨SP, hSP⟩ : ∃ S, S = ofL pr.1 := ⟨_, rfl⟩
   obtain ⟨pt, hpt⟩ : ∃ S, S = pr.2 := ⟨_, rfl⟩
   rw [← hSP] at v0
   rw [← hpt] at v1
   have HSP := Lib.hid hSP
   have HPT := Lib.hid hpt
   have hsq := HSQ.out
   rw [hd] at hsq
   have HCL : Hid ((∃ vv, s'.V.length ≤ 1000 ∧ lookV s'.V pr.1 = some vv ∧ r1 = .error (bd, 41)) ∨ (∃ N : Nat, s'.V.length ≤ 1000 ∧ lookV s'.V pr.1 = none ∧ s'.sz[f]? = some (N : Int) ∧ N ≤ 1000 ∧ s'.fn = (f : Int) ∧ f < q.k ∧ PsI q bd f (PS.drop (i + 1)) { s' with sz := s'.sz.set f ((N : Int) + 1), V := s'.V ++ [⟨pr.1, pr.2, (N : Int)⟩] } r1)) := Lib.hid (by
    cases hsq with
    | bad _ _ _ vv h1 h2 => exact .inl ⟨vv, h1, h2, rfl⟩
    | ok _ _ _ _ N h1 h2 h3 h4 h5 h6 h7 => exact .inr ⟨N, h1, h2, h3, h4, h5, h6, h7⟩)
   subst hfa
   clear hsq hd hpc g0 g1 hpr hpr' hSP hpt hil hin hin1 HSQ hx9
   go_upto_region 6 with fail
   obtain ⟨P7, hP7⟩ : ∃ X, X = wr.heap.size := ⟨_, rfl⟩
   obtain ⟨w3, hw3⟩ : ∃ w3, w3 = wr.alloc (.cells #[.string SP, .int .i64 pt] 69) := ⟨_, rfl⟩
   have kb := Keeps.one wr (.cells #[.string SP, .int .i64 pt] 69)
   have HM3 : Hid (Loc w3 R' P7 [.string SP, .int .i64 pt]) := Lib.hid (by rw [hw3, hP7]; exact Loc.new HCK.out.new [.string SP, .int .i64 pt] 69)
   rw [← hP7]
   rw [← hw3] at kb ⊢
   have HC3 := Lib.hid (HCK.out.keep kb)
   have HL3 := Lib.hid (HLr.out.keeps kb)
   have HF3 := Lib.hid (HFR.out.keeps kb)
   have f0 := HM3.out.cells 0 _ rfl
   have f1 := HM3.out.cells 1 _ rfl
   clear kb hw3 hP7 v0 v1 HCK HLr HFR
   rcases HCL.out with ⟨vv, hV, hv, hr1⟩ | ⟨N, hV, hv, hz, hN, hfn, hf, h2⟩
   ·have HRE : Hid (r = .error (bd, 41)) := Lib.hid (by
     rcases HR.out with ⟨z, e1, e2⟩ | ⟨s1, e1, _⟩
     ·rw [e1] at hr1; rw [e2]; exact hr1
     ·rw [e1] at hr1; cases hr1)
    clear hr1 HCL
    obtain ⟨VX, hVX⟩ : ∃ X, X = ofL vv.x := ⟨_, rfl⟩
    obtain ⟨vt, hvt⟩ : ∃ t, t = vv.t := ⟨_, rfl⟩
    obtain ⟨vs, hvs⟩ : ∃ t, t = vv.s := ⟨_, rfl⟩
    have FC : Hid (Calls Tryz.prog 46 #[.pointer (some ⟨P, 0, none⟩), .string SP] w3 fun e w' => e = .returned (.tuple #[.agg #[.string VX, .int .i64 vt, .int .i64 vs], .bool true]) ∧ Keeps (fun _ => False) w3 w') := Lib.hid (by
     have hc := pfind_any HC3.out pr.1 hV
     rw [← HSP.out, ← HP.out] at hc
     have e : findV s'.V pr.1 = .tuple #[.agg #[.string VX, .int .i64 vt, .int .i64 vs], .bool true] := by unfold findV; rw [hv, hVX, hvt, hvs]
     rw [e] at hc
     exact hc)
    clear hV hv hVX hvt hvs
    go_wp2_with fail
    refine FC.out.mono ?_
    rintro e w4 ⟨rfl, k4⟩
    go_upto_region 7 with fail
    obtain ⟨w5, hw5⟩ : ∃ w5, w5 = w4.alloc (.cells #[.string VX, .int .i64 vt, .int .i64 vs] 46) := ⟨_, rfl⟩
    have k5 : Keeps (fun _ => False) w3 w5 := by rw [hw5]; exact k4.trans (Keeps.one _ _) (fun _ _ h => h)
    rw [← hw5]
    have HC5 := Lib.hid (HC3.out.keep k5)
    have HL5 := Lib.hid (HL3.out.keeps k5)
    have HM5 := Lib.hid (HM3.out.keeps k5)
    have HF5 := Lib.hid (HF3.out.keeps k5)
    clear FC k4 k5 hw5 f0 f1 HC3 HL3 HM3 HF3
    have NC := Lib.hid (pfail_any HC5.out bd 41)
    rw [← HP.out] at NC
    have b4 := HL5.out.cells 4 _ rfl
    go_wp2_with fail
    refine NC.out.mono ?_
    rintro e w9 ⟨rfl, hp, hf⟩
    have HC9 := Lib.hid hp
    have HF9 := Lib.hid (HF5.out.trans hf)
    clear hp hf NC b4
    go_wp2_with fail
    go_ret
    rw [HRE.out]
    exact ⟨R', _, HC9.out, HF9.out, rfl, rfl, rfl⟩
   ·have HZ := Lib.hid (And.intro hz (And.intro hN (And.intro hfn (And.intro hf hV))))
    have H2 := Lib.hid h2
    clear hz hN hfn hf h2 HCL
    have FC : Hid (Calls Tryz.prog 46 #[.pointer (some ⟨P, 0, none⟩), .string SP] w3 fun e w' => e = .returned (.tuple #[.agg #[.string { data := #[] }, .int .i64 0, .int .i64 0], .bool false]) ∧ Keeps (fun _ => False) w3 w') := Lib.hid (by
     have hc := pfind_any HC3.out pr.1 hV
     rw [← HSP.out, ← HP.out] at hc
     have e : findV s'.V pr.1 = .tuple #[.agg #[.string { data := #[] }, .int .i64 0, .int .i64 0], .bool false] := by unfold findV; rw [hv]; rfl
     rw [e] at hc
     exact hc)
    clear hV hv
    go_wp2_with fail
    refine FC.out.mono ?_
    rintro e w4 ⟨rfl, k4⟩
    go_upto_region 7 with fail
    obtain ⟨w5, hw5⟩ : ∃ w5, w5 = w4.alloc (.cells #[.string { data := #[] }, .int .i64 0, .int .i64 0] 46) := ⟨_, rfl⟩
    have k5 : Keeps (fun _ => False) w3 w5 := by rw [hw5]; exact k4.trans (Keeps.one _ _) (fun _ _ h => h)
    rw [← hw5]
    have HC5 := Lib.hid (HC3.out.keep k5)
    have HL5 := Lib.hid (HL3.out.keeps k5)
    have HM5 := Lib.hid (HM3.out.keeps k5)
    have HF5 := Lib.hid (HF3.out.keeps k5)
    clear FC k4 k5 hw5 f0 f1 HC3 HL3 HM3 HF3
    have NC := Lib.hid (padd_any HC5.out f N HZ.out.2.2.1 HZ.out.2.2.2.1 HZ.out.1 HZ.out.2.1 HZ.out.2.2.2.2 pr.1 pr.2)
    rw [← HP.out, ← HSP.out, ← HPT.out] at NC
    have f0 := HM5.out.cells 0 _ rfl
    have f1 := HM5.out.cells 1 _ rfl
    go_wp2_with fail
    refine NC.out.mono ?_
    rintro e w9 ⟨rfl, R9, hp, hf⟩
    have HC9 := Lib.hid hp
    have HL9 := Lib.hid (HL5.out.keep hf)
    have HF9 := Lib.hid (HF5.out.trans hf)
    clear hp hf NC f0 f1
    go_wp2_with fail
    go_roundg (gk - 1)
    case measure => go_light; have h1 := HIQ.out; have h2 := HIN.out; omega
    case rel => exact ⟨i + 1, R9, _, by go_num, by have h1 := HIQ.out; have h2 := HIN.out; go_light; omega, by have h2 := HIN.out; go_light; omega, HC9.out, HL9.out, HF9.out, by rw [HPT.out]; exact H2.out⟩
  ·obtain rfl : m = i := by omega
   have hI : ¬ (m : Int) < (m : Int) := by omega
   have hdI : decide ((m : Int) < (m : Int)) = false := decide_eq_false hI
   have hr1 : r1 = .ok s' := by
    have h := HSQ.out
    rw [List.drop_of_length_le (by rw [← HM.out]; exact Nat.le_refl _)] at h
    cases h
    rfl
   rcases HR.out with ⟨z, e1, _⟩ | ⟨s2, e1, hB⟩
   ·rw [e1] at hr1; cases hr1
   rw [e1] at hr1
   have hr1 := Except.ok.inj hr1
   subst hr1
   have NC := Lib.hid (hB _ _ HCK.out)
   rw [← HP.out] at NC
   have b4 := HLr.out.cells 4 _ rfl
   clear hB e1 hin hin1 HSQ HR
   go_wp2_with fail
   refine NC.out.mono ?_
   rintro e w9 ho
   have HO := Lib.hid (OutC.trans ho HFR.out)
   obtain ⟨b, rfl⟩ := ho.bool
   clear ho NC b4
   go_wp2_with fail
   go_ret
   exact HO.out
end Go.Proofs.YtbhpnioggpgbhaaGreatDoor

namespace Go.Proofs.YtbhpnioggpgbhaaGreatDoor
open Go Go.RowKit Go.Shelf
set_option linter.unusedVariables false
set_option linter.unusedSimpArgs false
/-- What heads tells of main. -/
def mainZ (fs : List Fnc) : Int × Int := match lookF fs [109, 97, 105, 110] with
 | none => (0, 44)
 | some f => if f.ps.length = 0 ∧ f.ret = 0 then (0, 0) else (0, 44)
def HdZ (fs : List Fnc) (z : Int × Int) : Prop := (∃ (i : Nat) (F : Fnc), fs[i]? = some F ∧ idxF fs F.s < i ∧ (∀ (j : Nat) (G : Fnc), j < i → fs[j]? = some G → ¬ idxF fs G.s < j) ∧ z = (F.body, 41)) ∨ ((∀ (j : Nat) (G : Fnc), fs[j]? = some G → ¬ idxF fs G.s < j) ∧ z = mainZ fs)
set_option maxRecDepth 100000 in
set_option maxHeartbeats 16000000 in
theorem pheads_any (nd : List Nd) (fs : List Fnc) (A A' : Option Addr) (M K cc cd : Nat) (hK : K = fs.length) (hK6 : K ≤ 1000) (w : World) (hT : TreeR 0 w A A' nd fs) (z : Int × Int) (hz : HdZ fs z) :
  Calls Tryz.prog 27 #[.agg #[.slice A M cc, .slice A' K cd]] w fun e w' => e = .returned (.tuple #[.int .i64 z.1, .int .i64 z.2]) ∧ Keeps (fun _ => False) w w' := by
 have HT := Lib.hid hT
 have HK := Lib.hid hK
 have HZ := Lib.hid hz
 have HK6 := Lib.hid hK6
 clear hT hK hz
 go_enter Tryz.func27, Tryz.ntmps27
 go_upto_region 1 with fail
 obtain ⟨P1, hP1⟩ : ∃ X, X = w.heap.size := ⟨_, rfl⟩
 obtain ⟨w1, hw1⟩ : ∃ w1, w1 = w.alloc (.cells #[.slice A M cc, .slice A' K cd] 27) := ⟨_, rfl⟩
 have ka := Keeps.one w (.cells #[.slice A M cc, .slice A' K cd] 27)
 have L1 : Loc w1 (fun _ => False) P1 [.slice A M cc, .slice A' K cd] := by rw [hw1, hP1]; exact Loc.new (fun h => h) [.slice A M cc, .slice A' K cd] 27
 rw [← hP1]
 rw [← hw1] at ka ⊢
 have K1 := Lib.hid ka
 have HL1 := Lib.hid L1
 have a1 := L1.cells 1 _ rfl
 clear ka hw1 hP1 L1
 go_wp2_with fail
 go_loopg [4, 5, 10] (K + 1) (fun gq s4 s5 s10 wr => ∃ i : Nat, s10 = .int .i64 i ∧ i + gq = K + 1 ∧ i ≤ K ∧ (∀ (j : Nat) (G : Fnc), j < i → fs[j]? = some G → ¬ idxF fs G.s < j) ∧ Keeps (fun _ => False) w1 wr)
 case atStart => exact ⟨0, rfl, by omega, by omega, fun j G h => by omega, Keeps.refl _ _⟩
 case round =>
  obtain ⟨i, rfl, hiq, hin1, hno, kr⟩ := hrel
  have KR := Lib.hid (K1.out.trans kr (fun _ _ h => h))
  have KR1 := Lib.hid kr
  have HIQ := Lib.hid hiq
  have HNO := Lib.hid hno
  have HLr := Lib.hid (HL1.out.keeps kr)
  have HTr := Lib.hid (HT.out.keep KR.out)
  clear hiq kr hno a1
  by_cases hin : i < K
  ·have hI : (i : Int) < (K : Int) := by omega
   have hdI : decide ((i : Int) < (K : Int)) = true := decide_eq_true hI
   have hi0 : (0 : Int) ≤ (i : Int) := by omega
   have wi : IntKind.i64.wrap ((i : Int) + 1) = (i : Int) + 1 := IntWalk.i64_in _ (by omega)
   have HIN := Lib.hid hin
   have hil : i < fs.length := by rw [← HK.out]; exact hin
   obtain ⟨F, hF⟩ : ∃ F, F = fs[i] := ⟨_, rfl⟩
   have HFI : Hid (fs[i]? = some F) := Lib.hid (by rw [hF]; exact List.getElem?_eq_getElem hil)
   obtain ⟨b, off, hA, hc⟩ := HTr.out.fnAt (by omega)
   obtain ⟨fa, fc, d0, d1, d2, d3, d4, d5⟩ := hc i hil
   rw [← hF] at d0 d1 d2 d3 d4
   obtain ⟨SF, hSF⟩ : ∃ t, t = ofL F.s := ⟨_, rfl⟩
   obtain ⟨fl, hfl⟩ : ∃ t, t = F.ln := ⟨_, rfl⟩
   obtain ⟨pn, hpn⟩ : ∃ t, t = F.ps.length := ⟨_, rfl⟩
   obtain ⟨rt, hrt⟩ : ∃ t, t = F.ret := ⟨_, rfl⟩
   obtain ⟨bd, hbd⟩ : ∃ t, t = F.body := ⟨_, rfl⟩
   rw [← hSF] at d0
   rw [← hfl] at d1
   rw [← hpn] at d2
   rw [← hrt] at d3
   rw [← hbd] at d4
   have HBD := Lib.hid hbd
   obtain ⟨I, hII⟩ : ∃ I, I = idxF fs F.s := ⟨_, rfl⟩
   have HI := Lib.hid hII
   have FC : Hid (∀ w', Keeps (fun _ => False) wr w' → Calls Tryz.prog 45 #[.agg #[.slice A M cc, .slice A' K cd], .string SF] w' fun e w'' => e = .returned (.int .i64 I) ∧ Keeps (fun _ => False) w' w'') := Lib.hid (fun w' k => by
    have := pfun_any nd fs A A' M K cc cd F.s HK.out HK6.out w' (HTr.out.keep k)
    rw [← hSF, ← hII] at this
    exact this)
   subst hA
   have a0 := HLr.out.cells 0 _ rfl
   have a1 := HLr.out.cells 1 _ rfl
   clear hc d5 hF hSF hfl hpn hrt hbd hII hil hin hin1
   go_upto_region 4 with fail
   obtain ⟨P5, hP5⟩ : ∃ X, X = wr.heap.size := ⟨_, rfl⟩
   obtain ⟨w3, hw3⟩ : ∃ w3, w3 = wr.alloc (.cells #[.string SF, .int .i64 fl, .slice fa pn fc, .int .i64 rt, .int .i64 bd] 49) := ⟨_, rfl⟩
   have kb := Keeps.one wr (.cells #[.string SF, .int .i64 fl, .slice fa pn fc, .int .i64 rt, .int .i64 bd] 49)
   have L5 : Loc w3 (fun _ => False) P5 [.string SF, .int .i64 fl, .slice fa pn fc, .int .i64 rt, .int .i64 bd] := by rw [hw3, hP5]; exact Loc.new (fun h => h) [.string SF, .int .i64 fl, .slice fa pn fc, .int .i64 rt, .int .i64 bd] 49
   rw [← hP5]
   rw [← hw3] at kb ⊢
   have f0 := L5.cells 0 _ rfl
   have e0 := (kb.cell (cell_ltk a0) (fun h => h)).trans a0
   have e1 := (kb.cell (cell_ltk a1) (fun h => h)).trans a1
   have NC := Lib.hid (FC.out _ kb)
   have K3 := Lib.hid (KR.out.trans kb (fun _ _ h => h))
   have K31 := Lib.hid (KR1.out.trans kb (fun _ _ h => h))
   have HL5 := Lib.hid L5
   clear kb hw3 hP5 L5 a0 a1 d0 d1 d2 d3 d4 FC
   go_wp2_with fail
   refine NC.out.mono ?_
   rintro e w4 ⟨rfl, k4⟩
   have f4 := (HL5.out.keeps k4).cells 4 _ rfl
   have K4 := Lib.hid (K3.out.trans k4 (fun _ _ h => h))
   have K41 := Lib.hid (K31.out.trans k4 (fun _ _ h => h))
   clear NC k4 f0 e0 e1
   by_cases hlt : I < (i : Int)
   ·have HM : Hid (z = (bd, 41)) := Lib.hid (by
     rcases HZ.out with ⟨i2, F2, g1, g2, g3, g4⟩ | ⟨g1, _⟩
     ·have : i2 = i := by
       rcases Nat.lt_trichotomy i2 i with h | h | h
       ·exact absurd g2 (Int.not_lt.2 (HNO.out i2 F2 h g1))
       ·exact h
       ·exact absurd (by rw [← HI.out]; exact hlt) (g3 i F h HFI.out)
      subst this
      rw [HFI.out] at g1
      rw [g4, HBD.out, Option.some.inj g1]
     ·exact absurd (by rw [← HI.out]; exact hlt) (g1 i F HFI.out))
    have hdl : decide (I < (i : Int)) = true := decide_eq_true hlt
    go_wp2_with fail
    go_ret2
    exact ⟨by (rw [HM.out]; first | done | rfl), K4.out⟩
   ·have hdl : decide (I < (i : Int)) = false := decide_eq_false hlt
    have HM : Hid (∀ (j : Nat) (G : Fnc), j < i + 1 → fs[j]? = some G → ¬ idxF fs G.s < j) := Lib.hid (fun j G hj hG => by
     by_cases e : j = i
     ·subst e
      rw [HFI.out] at hG
      rw [← Option.some.inj hG, ← HI.out]
      exact hlt
     ·exact Int.not_lt.2 (HNO.out j G (by omega) hG))
    clear hlt
    go_wp2_with fail
    go_roundg (gk - 1)
    case measure => go_light; have h1 := HIQ.out; have h2 := HIN.out; omega
    case rel => exact ⟨i + 1, by go_num, by have h1 := HIQ.out; have h2 := HIN.out; go_light; omega, by have h2 := HIN.out; go_light; omega, HM.out, K41.out⟩
  ·obtain rfl : K = i := by omega
   have hI : ¬ (K : Int) < (K : Int) := by omega
   have hdI : decide ((K : Int) < (K : Int)) = false := decide_eq_false hI
   have HM : Hid (z = mainZ fs) := Lib.hid (by
    rcases HZ.out with ⟨i2, F2, g1, g2, g3, g4⟩ | ⟨_, g2⟩
    ·exact absurd g2 (HNO.out i2 F2 (by have := (List.getElem?_eq_some_iff.1 g1).1; rw [HK.out]; exact this) g1)
    ·exact g2)
   obtain ⟨I, hII⟩ : ∃ I, I = idxF fs [109, 97, 105, 110] := ⟨_, rfl⟩
   have FC : Hid (Calls Tryz.prog 45 #[.agg #[.slice A M cc, .slice A' K cd], .string { data := #[109, 97, 105, 110] }] wr fun e w'' => e = .returned (.int .i64 I) ∧ Keeps (fun _ => False) wr w'') := Lib.hid (by
    have := pfun_any nd fs A A' M K cc cd [109, 97, 105, 110] HK.out HK6.out wr HTr.out
    rw [← hII] at this
    exact this)
   have a0 := HLr.out.cells 0 _ rfl
   have a1 := HLr.out.cells 1 _ rfl
   clear hin hin1
   go_wp2_with fail
   refine FC.out.mono ?_
   rintro e w4 ⟨rfl, k4⟩
   have HT4 := Lib.hid (HTr.out.keep k4)
   have a1 := (HLr.out.keeps k4).cells 1 _ rfl
   have K4 := Lib.hid (KR.out.trans k4 (fun _ _ h => h))
   clear FC k4 a0
   cases hv : lookF fs [109, 97, 105, 110] with
   | none =>
    have HM2 : Hid (z = (0, 44)) := Lib.hid (by rw [HM.out]; unfold mainZ; rw [hv])
    have hlt : I < 0 := by rw [hII, idx_look.1 hv]; omega
    have hdl : decide (I < 0) = true := decide_eq_true hlt
    clear hII hv
    go_wp2_with fail
    go_ret2
    exact ⟨by (rw [HM2.out]; first | done | rfl), K4.out⟩
   | some F =>
    obtain ⟨ii, e1, hF⟩ := idx_look.2 F hv
    rw [← hII] at e1
    obtain ⟨hil, hFe⟩ := List.getElem?_eq_some_iff.1 hF
    obtain ⟨b, off, hA, hc⟩ := HT4.out.fnAt (by omega)
    obtain ⟨fa, fc, d0, d1, d2, d3, d4, d5⟩ := hc ii hil
    rw [hFe] at d2 d3
    have HM2 : Hid (z = if F.ps.length = 0 ∧ F.ret = 0 then (0, 0) else (0, 44)) := Lib.hid (by rw [HM.out]; unfold mainZ; rw [hv])
    subst e1
    have hiK : (ii : Int) < (K : Int) := by rw [HK.out]; omega
    have hi0 : (0 : Int) ≤ (ii : Int) := by omega
    have hdl : decide ((ii : Int) < 0) = false := decide_eq_false (by omega)
    obtain ⟨pn, hpn⟩ : ∃ t, t = F.ps.length := ⟨_, rfl⟩
    obtain ⟨rt, hrt⟩ : ∃ t, t = F.ret := ⟨_, rfl⟩
    rw [← hpn] at d2 HM2
    rw [← hrt] at d3 HM2
    subst hA
    clear hc d0 d1 d4 d5 hII hv hF hFe hpn hrt hil
    by_cases hp : pn = 0
    ·subst hp
     by_cases hr : rt = 0
     ·subst hr
      have HM3 : Hid (z = (0, 0)) := Lib.hid (by rw [HM2.out, if_pos ⟨rfl, rfl⟩])
      go_wp2_with fail
      go_ret2
      exact ⟨by (rw [HM3.out]; first | done | rfl), K4.out⟩
     ·have HM3 : Hid (z = (0, 44)) := Lib.hid (by rw [HM2.out, if_neg (fun h => hr h.2)])
      have hrb : (rt == 0) = false := by simpa using hr
      go_wp2_with fail
      go_ret2
      exact ⟨by (rw [HM3.out]; first | done | rfl), K4.out⟩
    ·have HM3 : Hid (z = (0, 44)) := Lib.hid (by rw [HM2.out, if_neg (fun h => hp h.1)])
     have hp0 : (0 : Int) < (pn : Int) := by omega
     have hp0n : 0 < pn := by omega
     have hpd : decide ((0 : Int) < (pn : Int)) = true := decide_eq_true hp0
     go_wp2_with fail
     go_ret2
     exact ⟨by (rw [HM3.out]; first | done | rfl), K4.out⟩
end Go.Proofs.YtbhpnioggpgbhaaGreatDoor

namespace Go.Proofs.YtbhpnioggpgbhaaGreatDoor
open Go Go.RowKit Go.Shelf
set_option linter.unusedVariables false
set_option linter.unusedSimpArgs false
section
variable {q : CkQ} {nd : List Nd} {fs : List Fnc} {w0 : World}
theorem nm_rest (j : Nat) (k n : Int) (x : List UInt8) (l : List Int) (s : CkS) (h4 : k ≠ 4) (h5 : k ≠ 5) (h11 : k ≠ 11) (h12 : k ≠ 12) (h17 : k ≠ 17) (h21 : k ≠ 21) : NmC q nd fs w0 j k n x l s 0 s := by
 intro w R ln a c hck hro
 exact (named_rest q.P w k j ln n (ofL x) a l.length c h4 h5 h11 h12 h17 h21).mono (fun e w' h => ⟨h.1, R, hck.keep h.2, (Fr.refl R w).keeps h.2⟩)
theorem nm_none (j : Nat) (hj : j < q.m) (k n : Int) (x : List UInt8) (l : List Int) (s : CkS) (hk : k = 4 ∨ k = 5 ∨ k = 11 ∨ k = 12) (hV : s.V.length ≤ 1000) (hv : lookV s.V x = none) : NmC q nd fs w0 j k n x l s 40 s := by
 intro w R ln a c hck hro
 rcases hk with rfl | rfl | rfl | rfl
 ·exact (named_none4 hck j hj ln n x a l.length c hV hv).mono (fun e w' h => ⟨h.1, R, hck.keep h.2, (Fr.refl R w).keeps h.2⟩)
 ·exact (named_none5 hck j hj ln n x a l.length c hV hv).mono (fun e w' h => ⟨h.1, R, hck.keep h.2, (Fr.refl R w).keeps h.2⟩)
 ·exact (named_none11 hck j hj ln n x a l.length c hV hv).mono (fun e w' h => ⟨h.1, R, hck.keep h.2, (Fr.refl R w).keeps h.2⟩)
 ·exact (named_none12 hck j hj ln n x a l.length c hV hv).mono (fun e w' h => ⟨h.1, R, hck.keep h.2, (Fr.refl R w).keeps h.2⟩)
theorem nm_some (j : Nat) (hj : j < q.m) (k n : Int) (x : List UInt8) (l : List Int) (s : CkS) (hk : k = 4 ∨ k = 5 ∨ k = 11 ∨ k = 12) (hV : s.V.length ≤ 1000) (v : Vb) (hv : lookV s.V x = some v) : NmC q nd fs w0 j k n x l s 0 { s with sl := s.sl.set j v.s } := by
 intro w R ln a c hck hro
 rcases hk with rfl | rfl | rfl | rfl
 ·exact (named_some4 hck j hj ln n x a l.length c hV v hv).mono (fun e w' h => ⟨h.1, R, h.2.1, h.2.2⟩)
 ·exact (named_some5 hck j hj ln n x a l.length c hV v hv).mono (fun e w' h => ⟨h.1, R, h.2.1, h.2.2⟩)
 ·exact (named_some11 hck j hj ln n x a l.length c hV v hv).mono (fun e w' h => ⟨h.1, R, h.2.1, h.2.2⟩)
 ·exact (named_some12 hck j hj ln n x a l.length c hV v hv).mono (fun e w' h => ⟨h.1, R, h.2.1, h.2.2⟩)
theorem nm_fn (j : Nat) (n : Int) (x : List UInt8) (l : List Int) (s : CkS) (hk6 : fs.length ≤ 1000) : NmC q nd fs w0 j 21 n x l s (if (lookF fs x).isSome then 0 else 40) s := by
 intro w R ln a c hck hro
 cases hv : lookF fs x with
 | none => exact (named_fn_none hck j ln n x a l.length c hk6 hv).mono (fun e w' h => ⟨h.1, R, hck.keep h.2, (Fr.refl R w).keeps h.2⟩)
 | some F => exact (named_fn_some hck j ln n x a l.length c hk6 (by rw [hv]; rfl)).mono (fun e w' h => ⟨h.1, R, hck.keep h.2, (Fr.refl R w).keeps h.2⟩)
theorem nm_ret (j : Nat) (n : Int) (x : List UInt8) (l : List Int) (s : CkS) (f : Nat) (F : Fnc) (hfn : s.fn = (f : Int)) (hF : fs[f]? = some F) (hk6 : fs.length ≤ 1000) : NmC q nd fs w0 j 17 n x l s (if (l.length = 0 ↔ F.ret = 0) then 0 else 43) s := by
 intro w R ln a c hck hro
 by_cases hm : l.length = 0
 ·by_cases hr : F.ret = 0
  ·rw [if_pos ⟨fun _ => hr, fun _ => hm⟩]
   exact (named_ret_zz hck j ln n x a l.length c f F hfn hF hm hr hk6).mono (fun e w' h => ⟨h.1, R, hck.keep h.2, (Fr.refl R w).keeps h.2⟩)
  ·rw [if_neg (fun h => hr (h.1 hm))]
   exact (named_ret_zr hck j ln n x a l.length c f F hfn hF hm hr hk6).mono (fun e w' h => ⟨h.1, R, hck.keep h.2, (Fr.refl R w).keeps h.2⟩)
 ·by_cases hr : F.ret = 0
  ·rw [if_neg (fun h => hm (h.2 hr))]
   exact (named_ret_mz hck j ln n x a l.length c f F hfn hF (by omega) hr hk6).mono (fun e w' h => ⟨h.1, R, hck.keep h.2, (Fr.refl R w).keeps h.2⟩)
  ·rw [if_pos ⟨fun h => absurd h hm, fun h => absurd h hr⟩]
   exact (named_ret_mr hck j ln n x a l.length c f F hfn hF (by omega) hr hk6).mono (fun e w' h => ⟨h.1, R, hck.keep h.2, (Fr.refl R w).keeps h.2⟩)
theorem lt_twice (j : Nat) (hj : j < q.m) (n : Int) (x : List UInt8) (l : List Int) (s : CkS) (hV : s.V.length ≤ 1000) (v : Vb) (hv : lookV s.V x = some v) : LtC q nd fs w0 j 10 n x l s 41 s := by
 intro w R ln a c hck hro
 exact (let_twice hck j hj ln n x a l.length c hV v hv).mono (fun e w' h => ⟨h.1, R, hck.keep h.2, (Fr.refl R w).keeps h.2⟩)
theorem lt_big (j : Nat) (hj : j < q.m) (n : Int) (x : List UInt8) (l : List Int) (s : CkS) (hV : s.V.length ≤ 1000) (hv : lookV s.V x = none) (f N : Nat) (hfn : s.fn = (f : Int)) (hf : f < q.k) (hz : s.sz[f]? = some (N : Int)) (hN : 24 ≤ N) : LtC q nd fs w0 j 10 n x l s 4 s := by
 intro w R ln a c hck hro
 exact (let_big hck j hj ln n x a l.length c hV hv f N hfn hf hz hN).mono (fun e w' h => ⟨h.1, R, hck.keep h.2, (Fr.refl R w).keeps h.2⟩)
theorem lt_ok (j : Nat) (hj : j < q.m) (n : Int) (x : List UInt8) (l : List Int) (s : CkS) (hV : s.V.length ≤ 1000) (hv : lookV s.V x = none) (f N : Nat) (hfn : s.fn = (f : Int)) (hf : f < q.k) (hz : s.sz[f]? = some (N : Int)) (hN : N < 24) (i : Nat) (hl0 : l[0]? = some (i : Int)) (him : i < q.m) (t : Int) (hti : s.ty[i]? = some t) : LtC q nd fs w0 j 10 n x l s 0 { s with sl := s.sl.set j (N : Int), sz := s.sz.set f ((N : Int) + 1), V := s.V ++ [⟨x, t, (N : Int)⟩] } := by
 intro w R ln a c hck hro
 exact (let_ok hck j hj ln n x a l.length c hV hv f N hfn hf hz hN l rfl hro i hl0 him t hti).mono (fun e w' h => ⟨h.1, h.2⟩)
end
end Go.Proofs.YtbhpnioggpgbhaaGreatDoor

namespace Go.Proofs.YtbhpnioggpgbhaaGreatDoor
open Go Go.RowKit Go.Shelf
set_option linter.unusedVariables false
set_option linter.unusedSimpArgs false
section
variable {q : CkQ} {nd : List Nd} {fs : List Fnc} {w0 : World}
theorem tl_k1 (n : Int) (x : List UInt8) (l : List Int) (s : CkS) (hV : s.V.length ≤ 1000) : TlC q nd fs w0 1 n x l s 1 0 := by
 intro w R ln a c hck hro
 obtain ⟨SO, ot, os, bk, hfv, hot⟩ := findV_form s.V x
 exact tells_k1 hck ln n x a l.length c hV SO ot os bk hfv
theorem tl_k19 (n : Int) (x : List UInt8) (l : List Int) (s : CkS) (hV : s.V.length ≤ 1000) : TlC q nd fs w0 19 n x l s 1 0 := by
 intro w R ln a c hck hro
 obtain ⟨SO, ot, os, bk, hfv, hot⟩ := findV_form s.V x
 exact tells_k19 hck ln n x a l.length c hV SO ot os bk hfv
theorem tl_k2 (n : Int) (x : List UInt8) (l : List Int) (s : CkS) (hV : s.V.length ≤ 1000) : TlC q nd fs w0 2 n x l s 2 0 := by
 intro w R ln a c hck hro
 obtain ⟨SO, ot, os, bk, hfv, hot⟩ := findV_form s.V x
 exact tells_k2 hck ln n x a l.length c hV SO ot os bk hfv
theorem tl_k3 (n : Int) (x : List UInt8) (l : List Int) (s : CkS) (hV : s.V.length ≤ 1000) : TlC q nd fs w0 3 n x l s 3 0 := by
 intro w R ln a c hck hro
 obtain ⟨SO, ot, os, bk, hfv, hot⟩ := findV_form s.V x
 exact tells_k3 hck ln n x a l.length c hV SO ot os bk hfv
theorem tl_var (n : Int) (x : List UInt8) (l : List Int) (s : CkS) (hV : s.V.length ≤ 1000) (v : Vb) (hv : lookV s.V x = some v) : TlC q nd fs w0 4 n x l s v.t 0 := by
 intro w R ln a c hck hro
 obtain ⟨SO, ot, os, bk, hfv, hot⟩ := findV_form s.V x
 rw [← hot v hv]
 exact tells_var hck ln n x a l.length c hV SO ot os bk hfv
theorem tl_neg (n : Int) (x : List UInt8) (l : List Int) (s : CkS) (hV : s.V.length ≤ 1000) (i0 : Nat) (hl0 : l[0]? = some (i0 : Int)) (him0 : i0 < q.m) (t0 : Int) (ht0 : s.ty[i0]? = some t0) : TlC q nd fs w0 7 n x l s (if t0 = 1 then 1 else 0) (if t0 = 1 then 0 else 42) := by
 intro w R ln a c hck hro
 obtain ⟨SO, ot, os, bk, hfv, hot⟩ := findV_form s.V x
 by_cases h : t0 = 1
 ·rw [if_pos h, if_pos h]
  exact tells_neg_ok hck ln n x a l.length c hV SO ot os bk hfv l rfl hro i0 hl0 him0 t0 ht0 (by simpa using h)
 ·rw [if_neg h, if_neg h]
  exact tells_neg_no hck ln n x a l.length c hV SO ot os bk hfv l rfl hro i0 hl0 him0 t0 ht0 (by simpa using h)
theorem tl_not (n : Int) (x : List UInt8) (l : List Int) (s : CkS) (hV : s.V.length ≤ 1000) (i0 : Nat) (hl0 : l[0]? = some (i0 : Int)) (him0 : i0 < q.m) (t0 : Int) (ht0 : s.ty[i0]? = some t0) : TlC q nd fs w0 8 n x l s (if t0 = 2 then 2 else 0) (if t0 = 2 then 0 else 42) := by
 intro w R ln a c hck hro
 obtain ⟨SO, ot, os, bk, hfv, hot⟩ := findV_form s.V x
 by_cases h : t0 = 2
 ·rw [if_pos h, if_pos h]
  exact tells_not_ok hck ln n x a l.length c hV SO ot os bk hfv l rfl hro i0 hl0 him0 t0 ht0 (by simpa using h)
 ·rw [if_neg h, if_neg h]
  exact tells_not_no hck ln n x a l.length c hV SO ot os bk hfv l rfl hro i0 hl0 him0 t0 ht0 (by simpa using h)
theorem tl_new (n : Int) (x : List UInt8) (l : List Int) (s : CkS) (hV : s.V.length ≤ 1000) (i0 : Nat) (hl0 : l[0]? = some (i0 : Int)) (him0 : i0 < q.m) (t0 : Int) (ht0 : s.ty[i0]? = some t0) : TlC q nd fs w0 20 n x l s (if t0 = 1 then 4 else 0) (if t0 = 1 then 0 else 42) := by
 intro w R ln a c hck hro
 obtain ⟨SO, ot, os, bk, hfv, hot⟩ := findV_form s.V x
 by_cases h : t0 = 1
 ·rw [if_pos h, if_pos h]
  exact tells_new_ok hck ln n x a l.length c hV SO ot os bk hfv l rfl hro i0 hl0 him0 t0 ht0 (by simpa using h)
 ·rw [if_neg h, if_neg h]
  exact tells_new_no hck ln n x a l.length c hV SO ot os bk hfv l rfl hro i0 hl0 him0 t0 ht0 (by simpa using h)
theorem tl_len (n : Int) (x : List UInt8) (l : List Int) (s : CkS) (hV : s.V.length ≤ 1000) (i0 : Nat) (hl0 : l[0]? = some (i0 : Int)) (him0 : i0 < q.m) (t0 : Int) (ht0 : s.ty[i0]? = some t0) : TlC q nd fs w0 6 n x l s (if t0 = 3 ∨ t0 = 4 then 1 else 0) (if t0 = 3 ∨ t0 = 4 then 0 else 42) := by
 intro w R ln a c hck hro
 obtain ⟨SO, ot, os, bk, hfv, hot⟩ := findV_form s.V x
 by_cases h3 : t0 = 3
 ·rw [if_pos (.inl h3), if_pos (.inl h3)]
  exact tells_len_text hck ln n x a l.length c hV SO ot os bk hfv l rfl hro i0 hl0 him0 t0 ht0 (by simpa using h3)
 by_cases h4 : t0 = 4
 ·rw [if_pos (.inr h4), if_pos (.inr h4)]
  exact tells_len_list hck ln n x a l.length c hV SO ot os bk hfv l rfl hro i0 hl0 him0 t0 ht0 (by simpa using h3) (by simpa using h4)
 ·rw [if_neg (fun h => h.elim h3 h4), if_neg (fun h => h.elim h3 h4)]
  exact tells_len_no hck ln n x a l.length c hV SO ot os bk hfv l rfl hro i0 hl0 him0 t0 ht0 (by simpa using h3) (by simpa using h4)
theorem tl_index (n : Int) (x : List UInt8) (l : List Int) (s : CkS) (hV : s.V.length ≤ 1000) (v : Vb) (hv : lookV s.V x = some v) (i0 : Nat) (hl0 : l[0]? = some (i0 : Int)) (him0 : i0 < q.m) (t0 : Int) (ht0 : s.ty[i0]? = some t0) : TlC q nd fs w0 5 n x l s (if v.t = 4 ∧ t0 = 1 then 1 else 0) (if v.t = 4 ∧ t0 = 1 then 0 else 42) := by
 intro w R ln a c hck hro
 obtain ⟨SO, ot, os, bk, hfv, hot⟩ := findV_form s.V x
 rw [← hot v hv]
 by_cases h4 : ot = 4
 ·by_cases h1 : t0 = 1
  ·rw [if_pos ⟨h4, h1⟩, if_pos ⟨h4, h1⟩]
   exact tells_index_ok hck ln n x a l.length c hV SO ot os bk hfv l rfl hro i0 hl0 him0 t0 ht0 (by simpa using h4) (by simpa using h1)
  ·rw [if_neg (fun h => h1 h.2), if_neg (fun h => h1 h.2)]
   exact tells_index_no hck ln n x a l.length c hV SO ot os bk hfv l rfl hro i0 hl0 him0 t0 ht0 (by simpa using h4) (by simpa using h1)
 ·rw [if_neg (fun h => h4 h.1), if_neg (fun h => h4 h.1)]
  exact tells_index_own hck ln n x a l.length c hV SO ot os bk hfv l rfl hro i0 hl0 him0 t0 ht0 (by simpa using h4)
theorem tl_bin (n : Int) (x : List UInt8) (l : List Int) (s : CkS) (hV : s.V.length ≤ 1000) (i0 : Nat) (hl0 : l[0]? = some (i0 : Int)) (him0 : i0 < q.m) (t0 : Int) (ht0 : s.ty[i0]? = some t0) (i1 : Nat) (hl1 : l[1]? = some (i1 : Int)) (him1 : i1 < q.m) (t1 : Int) (ht1 : s.ty[i1]? = some t1) (hx : x ∈ signs11) : TlC q nd fs w0 9 n x l s (if (signP x t0 t1).2 then (signP x t0 t1).1 else 0) (if (signP x t0 t1).2 then 0 else 42) := by
 intro w R ln a c hck hro
 obtain ⟨SO, ot, os, bk, hfv, hot⟩ := findV_form s.V x
 cases hb : (signP x t0 t1).2 with
 | true =>
  rw [if_pos rfl, if_pos rfl]
  exact tells_bin_ok hck ln n x a l.length c hV SO ot os bk hfv l rfl hro i0 hl0 him0 t0 ht0 i1 hl1 him1 t1 ht1 hx _ (Prod.ext rfl hb)
 | false =>
  rw [if_neg (by simp), if_neg (by simp)]
  exact tells_bin_no hck ln n x a l.length c hV SO ot os bk hfv l rfl hro i0 hl0 him0 t0 ht0 i1 hl1 him1 t1 ht1 hx (signP x t0 t1).1 (Prod.ext rfl hb)
end
end Go.Proofs.YtbhpnioggpgbhaaGreatDoor
