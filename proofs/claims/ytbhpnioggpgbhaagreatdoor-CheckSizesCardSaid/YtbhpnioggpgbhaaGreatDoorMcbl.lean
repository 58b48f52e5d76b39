/-
 Layer 4: the closure that looks for a node. Written by an AI agent.
-/
import Derived.Test.YtbhpnioggpgbhaaGreatDoorMcbk
namespace Go.Proofs.YtbhpnioggpgbhaaGreatDoor
open Go Go.RowKit Go.Shelf
set_option linter.unusedVariables false
set_option linter.unusedSimpArgs false
theorem addr_add0 (Y k : Nat) : (⟨Y, 0, none⟩ : Addr).add k = ⟨Y, k, none⟩ := by unfold Addr.add; split <;> simp_all
/-- What was there ahead is there. -/
theorem Vs.old {w : World} {B : Nat} {w0 : World} {R : Nat → Prop} {V : List Vb} (h : Vs w B w0 R V) {b j : Nat} {u : Value} (hc : w0.cell? ⟨b, j, none⟩ = some u) : w.cell? ⟨b, j, none⟩ = some u := by
 obtain ⟨v, h⟩ := h
 exact (h.up.cell (cell_ltk hc) (by have := cell_ltk hc; omega)).trans hc
/-- What a block comes to. -/
def lookR (n : Nat) : Bool × List Vb → Bool × List Vb
 | (true, V') => (true, V')
 | (false, V') => (false, V'.take n)
set_option maxRecDepth 100000 in
set_option maxHeartbeats 16000000 in
theorem plook (nd : List Nd) (fs : List Fnc) (L : List Tri) (A A' T S F Z : Option Addr) (c c' cT cS cF cZ kz : Nat) (w0 : World) (node : Int) (Bv Bp Bn Bl : Nat) (PB : PrB w0 nd fs L A A' T S F Z c c' cT cS cF cZ kz) (at_ : Nat) (k0 n0 : Int) (x0 : List UInt8) (l : List Int) (hat : At nd (at_ : Int) k0 n0 x0 l) (hl6 : l.length ≤ 1000) (hM6 : nd.length ≤ 1000) (hL6 : L.length = nd.length) (V : List Vb) (hV9 : V.length ≤ 900) (r1 : Bool × List Vb) (hseq : InI (StC (LkC nd fs L A A' T S F Z c c' cT cS cF cZ kz w0 node Bv Bp Bn Bl) nd L node) l V r1) (hlen : r1.1 = false → V.length ≤ r1.2.length) :
  LkC nd fs L A A' T S F Z c c' cT cS cF cZ kz w0 node Bv Bp Bn Bl (at_ : Int) V (lookR V.length r1) := by
 intro w R hw
 obtain ⟨i0, hi0v, hz0v, hz1v, hz2v⟩ := info_parts info_var
 have HI0 := Lib.hid (And.intro hi0v (And.intro hz0v (And.intro hz1v hz2v)))
 clear hi0v hz0v hz1v hz2v
 have HW := Lib.hid hw
 have HPB := Lib.hid PB
 have HSEQ := Lib.hid hseq
 have HLEN := Lib.hid hlen
 obtain ⟨v, hv⟩ := hw.vs
 obtain ⟨Av, cv, rfl⟩ := own_formk hv.own
 have y1 := hv.c
 have p0 := hw.p.cells 0 _ rfl
 obtain ⟨jj, nb, no, ln, la, lc, ejj, hjn, hA, hN⟩ := PB.tree.node hat
 have ejj : at_ = jj := by omega
 subst ejj
 have n4 := hw.vs.old hN.c4
 have HRO := Lib.hid hN.ro
 have HA := Lib.hid hA
 rw [hA] at p0
 obtain ⟨M, hM⟩ : ∃ t, t = nd.length := ⟨_, rfl⟩
 obtain ⟨m, hm⟩ : ∃ t, t = l.length := ⟨_, rfl⟩
 obtain ⟨vn, hvn⟩ : ∃ t, t = V.length := ⟨_, rfl⟩
 replace p0 : w.cell? ⟨Bp, 0, none⟩ = some (.slice (some ⟨nb, no, none⟩) M c) := by rw [hM]; exact p0
 replace n4 : w.cell? ⟨nb, no + at_ * 5 + 4, none⟩ = some (.slice la m lc) := by rw [hm]; exact n4
 replace y1 : w.cell? ⟨Bv, 0, none⟩ = some (.slice Av vn cv) := by rw [hvn]; exact y1
 have hjM : (at_ : Int) < (M : Int) := by omega
 have hj0 : (0 : Int) ≤ (at_ : Int) := by omega
 have HM := Lib.hid hM
 have HMM := Lib.hid hm
 have HVN := Lib.hid hvn
 have HV9 := Lib.hid hV9
 have HL6 := Lib.hid hL6
 have hm6 : m ≤ 1000 := by omega
 clear hw hv hseq hlen PB hN hM hm hvn hV9 hL6 hjn hl6 hA
 go_enter Tryz.func31, Tryz.ntmps31
 go_wp2_with fail
 clear y1 p0 n4
 go_loopg [9, 10, 12, 23] (m + 1) (fun gq s9 s10 s12 s23 wr => ∃ (i : Nat) (R' : Nat → Prop) (V' : List Vb), s23 = .int .i64 i ∧ i + gq = m + 1 ∧ i ≤ m ∧ LkW nd fs L A A' T S F Z c c' cT cS cF cZ kz w0 node Bv Bp Bn Bl wr R' V' ∧ V'.length ≤ 900 ∧ Fr R w R' wr ∧ InI (StC (LkC nd fs L A A' T S F Z c c' cT cS cF cZ kz w0 node Bv Bp Bn Bl) nd L node) (l.drop i) V' r1)
 case atStart => exact ⟨0, R, V, rfl, by omega, by omega, HW.out, HV9.out, Fr.refl _ _, HSEQ.out⟩
 case round =>
  obtain ⟨i, R', V', rfl, hiq, hin1, hlk, hv9, hfr, hsq⟩ := hrel
  have HIQ := Lib.hid hiq
  have HLK := Lib.hid hlk
  have HFR := Lib.hid hfr
  have HSQ := Lib.hid hsq
  have HV9r := Lib.hid hv9
  clear hiq hlk hfr hsq hv9
  by_cases hin : i < m
  ·have hI : (i : Int) < (m : Int) := by omega
   have hdI : decide ((i : Int) < (m : Int)) = true := decide_eq_true hI
   have hi0 : (0 : Int) ≤ (i : Int) := by omega
   have wi : IntKind.i64.wrap ((i : Int) + 1) = (i : Int) + 1 := IntWalk.i64_in _ (by omega)
   have HIN := Lib.hid hin
   have hil : i < l.length := by rw [← HMM.out]; exact hin
   obtain ⟨xi, hxi⟩ : ∃ x, x = l[i] := ⟨_, rfl⟩
   obtain ⟨lb, lo, hla, hlc⟩ := HRO.out.get hil (show l[i]? = some xi by rw [hxi]; exact List.getElem?_eq_getElem hil)
   have lcr := HLK.out.vs.old hlc
   subst hla
   have q0 := HLK.out.n.cells 0 _ rfl
   have hd : l.drop i = xi :: l.drop (i + 1) := by rw [hxi]; exact List.drop_eq_getElem_cons hil
   have hsq := HSQ.out
   rw [hd] at hsq
   have HCL : Hid (∃ rs : Bool × List Vb, StC (LkC nd fs L A A' T S F Z c c' cT cS cF cZ kz w0 node Bv Bp Bn Bl) nd L node xi V' rs ∧ ((rs.1 = true ∧ r1 = rs) ∨ (rs.1 = false ∧ rs.2.length ≤ 900 ∧ InI (StC (LkC nd fs L A A' T S F Z c c' cT cS cF cZ kz w0 node Bv Bp Bn Bl) nd L node) (l.drop (i + 1)) rs.2 r1))) := Lib.hid (by
    cases hsq with
    | found _ _ _ V2 h => exact ⟨_, h, .inl ⟨rfl, rfl⟩⟩
    | next _ _ _ V1 _ h h9 h2 => exact ⟨_, h, .inr ⟨rfl, h9, h2⟩⟩)
   clear hsq hd hlc hxi hil hin hin1 HSQ
   obtain ⟨rs, hst, hrs⟩ := HCL.out
   have HRS := Lib.hid hrs
   clear hrs HCL
   rcases hst with ⟨hxn, hrr⟩ | ⟨hxn, j, k, n, s, lx, hxj, hatx, hlx6, hcase⟩
   ·have hbn : (xi == node) = true := by simpa using hxn
    have HFIN : Hid (r1 = (true, V')) := Lib.hid (by
     rcases HRS.out with ⟨_, e⟩ | ⟨e, _⟩
     ·rw [e, hrr]
     ·rw [hrr] at e; cases e)
    clear hxn hrr
    go_wp2_with fail
    go_ret
    rw [HFIN.out]
    exact ⟨rfl, R', HLK.out.vs, HFR.out⟩
   ·have hbn : (xi == node) = false := by simpa using hxn
    obtain ⟨jj, nb2, no2, ln2, la2, lc2, ejj, hjn2, hA2, hN2⟩ := HPB.out.tree.node hatx
    rw [HA.out] at hA2
    cases hA2
    have ej : j = jj := by omega
    subst ej
    subst hxj
    have n0' := HLK.out.vs.old hN2.c0
    have n1' := HLK.out.vs.old hN2.c1
    have n2' := HLK.out.vs.old hN2.c2
    have n3' := HLK.out.vs.old hN2.c3
    have n4' := HLK.out.vs.old hN2.c4
    have HRO2 := Lib.hid hN2.ro
    have HCAP2 : Hid (lx.length ≤ lc2) := Lib.hid (by
     obtain ⟨b, off, a, cq, e, h1, h2⟩ := HPB.out.cap j hjn2
     rw [HA.out] at e
     cases e
     have h3 := h1.symm.trans hN2.c4
     injection h3 with h3
     injection h3 with _ h4 h5
     omega)
    have p0' := HLK.out.p.cells 0 _ rfl
    obtain ⟨X, hX⟩ : ∃ X, X = ofL s := ⟨_, rfl⟩
    have HX := Lib.hid hX
    rw [← hX] at n3'
    obtain ⟨m2, hm2⟩ : ∃ t, t = lx.length := ⟨_, rfl⟩
    replace n4' : wr.cell? ⟨nb, no + j * 5 + 4, none⟩ = some (.slice la2 m2 lc2) := by rw [hm2]; exact n4'
    replace p0' : wr.cell? ⟨Bp, 0, none⟩ = some (.slice (some ⟨nb, no, none⟩) M c) := by rw [HM.out, ← HA.out]; exact p0'
    have hjM2 : (j : Int) < (M : Int) := by rw [HM.out]; omega
    have hj20 : (0 : Int) ≤ (j : Int) := by omega
    have HM2 := Lib.hid hm2
    have hm26 : m2 ≤ 1000 := by omega
    obtain ⟨P10, hP10⟩ : ∃ X, X = wr.heap.size := ⟨_, rfl⟩
    obtain ⟨w7, hw7⟩ : ∃ w7, w7 = wr.alloc (.cells #[.int .i64 k, .int .i64 ln2, .int .i64 n, .string X, .slice la2 m2 lc2] 41) := ⟨_, rfl⟩
    have k7 := Keeps.one wr (.cells #[.int .i64 k, .int .i64 ln2, .int .i64 n, .string X, .slice la2 m2 lc2] 41)
    have hnew : ¬ R' wr.heap.size := by
     obtain ⟨_, hx⟩ := HLK.out.vs
     exact fun h => Nat.lt_irrefl _ (hx.lt _ h)
    have L10 : Loc w7 R' P10 [.int .i64 k, .int .i64 ln2, .int .i64 n, .string X, .slice la2 m2 lc2] := by rw [hw7, hP10]; exact Loc.new hnew [.int .i64 k, .int .i64 ln2, .int .i64 n, .string X, .slice la2 m2 lc2] 41
    clear hX hm2 hN2 hatx hxn hjn2 hnew hlx6
    go_upto_region 8 with fail
    rw [← hP10]
    rw [← hw7] at k7 ⊢
    have HK7 := Lib.hid k7
    have H10 := Lib.hid L10
    have z0 := L10.cells 0 _ rfl
    have hlk7 : LkW nd fs L A A' T S F Z c c' cT cS cF cZ kz w0 node Bv Bp Bn Bl w7 R' V' := ⟨HLK.out.vs.keep k7, HLK.out.p.keeps k7, HLK.out.n.keeps k7, HLK.out.l.keeps k7, HLK.out.sz⟩
    have HLK7 := Lib.hid hlk7
    have HFR7 := Lib.hid (HFR.out.keeps k7)
    clear L10 k7 hw7 hP10 hlk7 n0' n1' n2' n3' n4' p0' q0 lcr hbn
    rcases hcase with ⟨rfl, i1, t1, t2, hl0, hL1, hL2, hrr⟩ | ⟨hk, hl1, hin2⟩ | ⟨hk1, hk2, hk3, hrr⟩
    ·obtain ⟨v', hx⟩ := HLK7.out.vs
     obtain ⟨A1, c1, rfl⟩ := own_formk hx.own
     have c6 := hx.c
     have nR : ∀ b, ¬ R' b → ¬ (b = Bv ∨ (Value.slice A1 V'.length c1).ownBlock = some b) := fun b hb e => by
      rcases e with e | e
      ·exact hb (e ▸ hx.rB)
      ·exact hb (hx.vb b e).1
     have nO : ∀ b, b < w0.heap.size → ¬ R' b := fun b hb h => by have := hx.hi b h; omega
     have z3 := H10.out.cells 3 _ rfl
     have z4 := H10.out.cells 4 _ rfl
     have y2 := HLK7.out.p.cells 2 _ rfl
     have y3 := HLK7.out.p.cells 3 _ rfl
     have hm20 : 0 < m2 := by rw [HM2.out]; exact Nat.pos_of_ne_zero (fun e => by rw [List.length_eq_zero_iff.1 e] at hl0; cases hl0)
     obtain ⟨lb2, lo2, hla2, hlc2⟩ := HRO2.out.get (k := 0) (by rw [← HM2.out]; exact hm20) hl0
     obtain ⟨hi1l, hi1e⟩ := List.getElem?_eq_some_iff.1 hL1
     obtain ⟨hj1l, hj1e⟩ := List.getElem?_eq_some_iff.1 hL2
     obtain ⟨tb, tq, hTT, htc⟩ := HPB.out.rT.get (k := i1) (by rw [List.length_map]; exact hi1l) (x := t1.t) (by rw [List.getElem?_map, hL1]; rfl)
     obtain ⟨sb, sq, hSS, hsc⟩ := HPB.out.rS.get (k := j) (by rw [List.length_map]; exact hj1l) (x := t2.s) (by rw [List.getElem?_map, hL2]; rfl)
     have hlc7 := HLK7.out.vs.old hlc2
     have htc7 := HLK7.out.vs.old htc
     have hsc7 := HLK7.out.vs.old hsc
     rw [HL6.out, ← HM.out] at hi1l hj1l
     replace y2 : w7.cell? ⟨Bp, 2, none⟩ = some (.slice (some ⟨tb, tq, none⟩) M cT) := by rw [HM.out, ← HL6.out, ← hTT]; exact y2
     replace y3 : w7.cell? ⟨Bp, 3, none⟩ = some (.slice (some ⟨sb, sq, none⟩) M cS) := by rw [HM.out, ← HL6.out, ← hSS]; exact y3
     rw [hla2] at z4
     have hi1I : (i1 : Int) < (M : Int) := by omega
     have hi1z : (0 : Int) ≤ (i1 : Int) := by omega
     have hm2I : (0 : Int) < (m2 : Int) := by omega
     obtain ⟨vm, hvm⟩ : ∃ t, t = V'.length := ⟨_, rfl⟩
     rw [← hvm] at c6 nR
     obtain ⟨ty, hty⟩ : ∃ t, t = t1.t := ⟨_, rfl⟩
     obtain ⟨sl, hsl⟩ : ∃ t, t = t2.s := ⟨_, rfl⟩
     rw [← hty] at htc7
     rw [← hsl] at hsc7
     have SK : Hid (∀ w', Keeps (fun b => b = Bv ∨ (Value.slice A1 vm c1).ownBlock = some b) w7 w' → w'.cell? ⟨P10, 3, none⟩ = some (.string X) ∧ w'.cell? ⟨P10, 4, none⟩ = some (.slice (some ⟨lb2, lo2, none⟩) m2 lc2) ∧ w'.cell? ⟨Bp, 2, none⟩ = some (.slice (some ⟨tb, tq, none⟩) M cT) ∧ w'.cell? ⟨Bp, 3, none⟩ = some (.slice (some ⟨sb, sq, none⟩) M cS) ∧ w'.cell? ⟨lb2, lo2, none⟩ = some (.int .i64 i1) ∧ w'.cell? ⟨tb, tq + i1, none⟩ = some (.int .i64 ty) ∧ w'.cell? ⟨sb, sq + j, none⟩ = some (.int .i64 sl)) := Lib.hid (fun w' k => ⟨(k.cell (cell_ltk z3) (nR _ H10.out.out)).trans z3, (k.cell (cell_ltk z4) (nR _ H10.out.out)).trans z4, (k.cell (cell_ltk y2) (nR _ HLK7.out.p.out)).trans y2, (k.cell (cell_ltk y3) (nR _ HLK7.out.p.out)).trans y3, (k.cell (cell_ltk hlc7) (nR _ (nO _ (cell_ltk hlc2)))).trans hlc7, (k.cell (cell_ltk htc7) (nR _ (nO _ (cell_ltk htc)))).trans htc7, (k.cell (cell_ltk hsc7) (nR _ (nO _ (cell_ltk hsc)))).trans hsc7⟩)
     have HNX : Hid ((V' ++ [(⟨s, ty, sl⟩ : Vb)]).length ≤ 900 ∧ InI (StC (LkC nd fs L A A' T S F Z c c' cT cS cF cZ kz w0 node Bv Bp Bn Bl) nd L node) (l.drop (i + 1)) (V' ++ [(⟨s, ty, sl⟩ : Vb)]) r1) := Lib.hid (by
      rcases HRS.out with ⟨e, _⟩ | ⟨_, h9, h⟩
      ·rw [hrr] at e; cases e
      ·rw [hrr, ← hty, ← hsl] at h h9; exact ⟨h9, h⟩)
     have HX7 := Lib.hid hx
     have HVM := Lib.hid hvm
     clear hx z3 z4 y2 y3 hlc7 htc7 hsc7 nO hl0 hL1 hL2 hrr hi1l hj1l hi1e hj1e hTT hSS htc hsc hlc2 hty hsl hvm hla2
     go_upto_region 10 with fail
     refine wp_region_held_drew (S := fun w' => Keeps (fun b => b = Bv ∨ (Value.slice A1 vm c1).ownBlock = some b) w7 w') rfl ((Keeps.refl _ w7).drew) (fun hSw => ?_)
     refine wpAnyH_take (i := 1) (v := ?_) rfl (by kernel_rfl) (by kernel_rfl) (by kernel_rfl) (fun _ _ _ h => h) (Or.inl ⟨by rfl, ?_⟩) (by assumption) ?_
     rotate_left
     ·(intro w' hSw'; obtain ⟨e3, e4, e5, e6, e7, e8, e9⟩ := SK.out w' hSw'; go_simp; (try (with_reducible rfl)))
     simp only [Act.put, List.getElem_toArray, List.getElem_cons_succ, List.getElem_cons_zero, List.setIfInBounds_toArray, List.set_cons_succ, List.set_cons_zero]
     refine wpAnyH_take (i := 2) (v := ?_) rfl (by kernel_rfl) (by kernel_rfl) (by kernel_rfl) (fun _ _ _ h => h) (Or.inl ⟨by rfl, ?_⟩) (by assumption) ?_
     rotate_left
     ·(intro w' hSw'; obtain ⟨e3, e4, e5, e6, e7, e8, e9⟩ := SK.out w' hSw'; go_simp; (try (with_reducible rfl)))
     simp only [Act.put, List.getElem_toArray, List.getElem_cons_succ, List.getElem_cons_zero, List.setIfInBounds_toArray, List.set_cons_succ, List.set_cons_zero]
     refine wpAnyH_take (i := 3) (v := ?_) rfl (by kernel_rfl) (by kernel_rfl) (by kernel_rfl) (fun _ _ _ h => h) (Or.inl ⟨by rfl, ?_⟩) (by assumption) ?_
     rotate_left
     ·(intro w' hSw'; obtain ⟨e3, e4, e5, e6, e7, e8, e9⟩ := SK.out w' hSw'; go_simp; (try (with_reducible rfl)))
     simp only [Act.put, List.getElem_toArray, List.getElem_cons_succ, List.getElem_cons_zero, List.setIfInBounds_toArray, List.set_cons_succ, List.set_cons_zero]
     refine wpAnyH_take (i := 4) (v := ?_) rfl (by kernel_rfl) (by kernel_rfl) (by kernel_rfl) (fun _ _ _ h => h) (Or.inl ⟨by rfl, ?_⟩) (by assumption) ?_
     rotate_left
     ·(intro w' hSw'; obtain ⟨e3, e4, e5, e6, e7, e8, e9⟩ := SK.out w' hSw'; go_simp; (try (with_reducible rfl)))
     simp only [Act.put, List.getElem_toArray, List.getElem_cons_succ, List.getElem_cons_zero, List.setIfInBounds_toArray, List.set_cons_succ, List.set_cons_zero]
     refine wpAnyH_take (i := 5) (v := ?_) rfl (by kernel_rfl) (by kernel_rfl) (by kernel_rfl) (fun _ _ _ h => h) (Or.inl ⟨by rfl, ?_⟩) (by assumption) ?_
     rotate_left
     ·(intro w' hSw'; obtain ⟨e3, e4, e5, e6, e7, e8, e9⟩ := SK.out w' hSw'; go_simp; (try (with_reducible rfl)))
     simp only [Act.put, List.getElem_toArray, List.getElem_cons_succ, List.getElem_cons_zero, List.setIfInBounds_toArray, List.set_cons_succ, List.set_cons_zero]
     refine wpAnyH_take (i := 6) (v := ?_) rfl (by kernel_rfl) (by kernel_rfl) (by kernel_rfl) (fun _ _ _ h => h) (Or.inl ⟨by rfl, ?_⟩) (by assumption) ?_
     rotate_left
     ·(intro w' hSw'; obtain ⟨e3, e4, e5, e6, e7, e8, e9⟩ := SK.out w' hSw'; go_simp; (try (with_reducible rfl)))
     simp only [Act.put, List.getElem_toArray, List.getElem_cons_succ, List.getElem_cons_zero, List.setIfInBounds_toArray, List.set_cons_succ, List.set_cons_zero]
     refine wpAnyH_take (i := 7) (v := ?_) rfl (by kernel_rfl) (by kernel_rfl) (by kernel_rfl) (fun _ _ _ h => h) (Or.inl ⟨by rfl, ?_⟩) (by assumption) ?_
     rotate_left
     ·(intro w' hSw'; obtain ⟨e3, e4, e5, e6, e7, e8, e9⟩ := SK.out w' hSw'; go_simp; (try (with_reducible rfl)))
     simp only [Act.put, List.getElem_toArray, List.getElem_cons_succ, List.getElem_cons_zero, List.setIfInBounds_toArray, List.set_cons_succ, List.set_cons_zero]
     refine wpAnyH_take (i := 8) (v := ?_) rfl (by kernel_rfl) (by kernel_rfl) (by kernel_rfl) (fun _ _ _ h => h) (Or.inl ⟨by rfl, ?_⟩) (by assumption) ?_
     rotate_left
     ·(intro w' hSw'; obtain ⟨e3, e4, e5, e6, e7, e8, e9⟩ := SK.out w' hSw'; go_simp; (try (with_reducible rfl)))
     simp only [Act.put, List.getElem_toArray, List.getElem_cons_succ, List.getElem_cons_zero, List.setIfInBounds_toArray, List.set_cons_succ, List.set_cons_zero]
     refine wpAnyH_take (i := 9) (v := ?_) rfl (by kernel_rfl) (by kernel_rfl) (by kernel_rfl) (fun _ _ _ h => h) (Or.inl ⟨by rfl, ?_⟩) (by assumption) ?_
     rotate_left
     ·(intro w' hSw'; obtain ⟨e3, e4, e5, e6, e7, e8, e9⟩ := SK.out w' hSw'; go_simp; (try (with_reducible rfl)))
     simp only [Act.put, List.getElem_toArray, List.getElem_cons_succ, List.getElem_cons_zero, List.setIfInBounds_toArray, List.set_cons_succ, List.set_cons_zero]
     refine wpAnyH_take (i := 10) (v := ?_) rfl (by kernel_rfl) (by kernel_rfl) (by kernel_rfl) (fun _ _ _ h => h) (Or.inl ⟨by rfl, ?_⟩) (by assumption) ?_
     rotate_left
     ·(intro w' hSw'; obtain ⟨e3, e4, e5, e6, e7, e8, e9⟩ := SK.out w' hSw'; go_simp; (try (with_reducible rfl)))
     simp only [Act.put, List.getElem_toArray, List.getElem_cons_succ, List.getElem_cons_zero, List.setIfInBounds_toArray, List.set_cons_succ, List.set_cons_zero]
     refine wpAnyH_take (i := 11) (v := ?_) rfl (by kernel_rfl) (by kernel_rfl) (by kernel_rfl) (fun _ _ _ h => h) (Or.inl ⟨by rfl, ?_⟩) (by assumption) ?_
     rotate_left
     ·(intro w' hSw'; obtain ⟨e3, e4, e5, e6, e7, e8, e9⟩ := SK.out w' hSw'; go_simp; (try (with_reducible rfl)))
     simp only [Act.put, List.getElem_toArray, List.getElem_cons_succ, List.getElem_cons_zero, List.setIfInBounds_toArray, List.set_cons_succ, List.set_cons_zero]
     refine wpAnyH_take (i := 12) (v := ?_) rfl (by kernel_rfl) (by kernel_rfl) (by kernel_rfl) (fun _ _ _ h => h) (Or.inl ⟨by rfl, ?_⟩) (by assumption) ?_
     rotate_left
     ·(intro w' hSw'; obtain ⟨e3, e4, e5, e6, e7, e8, e9⟩ := SK.out w' hSw'; go_simp; (try (with_reducible rfl)))
     simp only [Act.put, List.getElem_toArray, List.getElem_cons_succ, List.getElem_cons_zero, List.setIfInBounds_toArray, List.set_cons_succ, List.set_cons_zero]
     refine wpAnyH_take (i := 13) (v := ?_) rfl (by kernel_rfl) (by kernel_rfl) (by kernel_rfl) (fun _ _ _ h => h) (Or.inl ⟨by rfl, ?_⟩) (by assumption) ?_
     rotate_left
     ·(intro w' hSw'; obtain ⟨e3, e4, e5, e6, e7, e8, e9⟩ := SK.out w' hSw'; go_simp; (try (with_reducible rfl)))
     simp only [Act.put, List.getElem_toArray, List.getElem_cons_succ, List.getElem_cons_zero, List.setIfInBounds_toArray, List.set_cons_succ, List.set_cons_zero]
     refine wpAnyH_take (i := 14) (v := ?_) rfl (by kernel_rfl) (by kernel_rfl) (by kernel_rfl) (fun _ _ _ h => h) (Or.inl ⟨by rfl, ?_⟩) (by assumption) ?_
     rotate_left
     ·(intro w' hSw'; obtain ⟨e3, e4, e5, e6, e7, e8, e9⟩ := SK.out w' hSw'; go_simp; (try (with_reducible rfl)))
     simp only [Act.put, List.getElem_toArray, List.getElem_cons_succ, List.getElem_cons_zero, List.setIfInBounds_toArray, List.set_cons_succ, List.set_cons_zero]
     refine wpAnyH_take (i := 15) (v := ?_) rfl (by kernel_rfl) (by kernel_rfl) (by kernel_rfl) (fun _ _ _ h => h) (Or.inl ⟨by rfl, ?_⟩) (by assumption) ?_
     rotate_left
     ·(intro w' hSw'; obtain ⟨e3, e4, e5, e6, e7, e8, e9⟩ := SK.out w' hSw'; go_simp; (try (with_reducible rfl)))
     simp only [Act.put, List.getElem_toArray, List.getElem_cons_succ, List.getElem_cons_zero, List.setIfInBounds_toArray, List.set_cons_succ, List.set_cons_zero]
     refine wpAnyH_take (i := 16) (v := ?_) rfl (by kernel_rfl) (by kernel_rfl) (by kernel_rfl) (fun _ _ _ h => h) (Or.inl ⟨by rfl, ?_⟩) (by assumption) ?_
     rotate_left
     ·(intro w' hSw'; obtain ⟨e3, e4, e5, e6, e7, e8, e9⟩ := SK.out w' hSw'; go_simp; (try (with_reducible rfl)))
     simp only [Act.put, List.getElem_toArray, List.getElem_cons_succ, List.getElem_cons_zero, List.setIfInBounds_toArray, List.set_cons_succ, List.set_cons_zero]
     have c67 : w7.cell? ⟨Bv, 0, none⟩ = some (.slice A1 vm c1) := c6
     clear hSw
     refine wpAnyH_makes _ w7.drew [0, 17] (fun i => if i = 0 then (40 : Nat) else (57 : Nat)) (fun _ => []) (fun i f w => (i = 0 → f 0 = .slice A1 vm c1) ∧ (i = 17 → ∃ Y, f 17 = .slice (some ⟨Y, 0, none⟩) 1 1 ∧ Loc w (fun _ => False) Y [.string X, .int .i64 ty, .int .i64 sl])) (fun _ _ _ _ => True) (fun i f w1 w2 k h => ⟨h.1, fun e => by obtain ⟨Y, a, b⟩ := h.2 e; exact ⟨Y, a, b.keeps k⟩⟩) (fun i f g w hfg h => ⟨fun e => by subst e; rw [← hfg 0 (.inl rfl)]; exact h.1 rfl, fun e => by subst e; rw [← hfg 17 (.inl rfl)]; exact h.2 rfl⟩) (fun w' k => (((Keeps.refl (fun _ => False) w7).drew).trans k (fun _ _ h => h)).mono (fun _ _ h => h.elim)) (by intro i hi; simp only [List.mem_cons, List.not_mem_nil, or_false] at hi; rcases hi with rfl | rfl <;> first | exact (show (40 : Nat) < 78 by decide) | exact (show (57 : Nat) < 78 by decide)) ?_ #[true, true, true, true, true, true, true, true, true, true, true, true, true, true, true, true, true, true, false, false] 2 ?_ (by decide) 2 _ [0, 17] _ _ (by kernel_rfl) (fun _ h => h) rfl rfl (fun _ _ => rfl) (fun i h1 h2 => absurd h1 h2) (fun i h1 j h2 _ h3 => absurd h1 h3) (fun i h1 h2 => absurd h1 h2) (by decide) (Keeps.refl _ _)
     ·intro i hi
      simp only [List.mem_cons, List.not_mem_nil, or_false] at hi
      rcases hi with rfl | rfl
      ·refine ⟨by simp, _, rfl, rfl, rfl, fun ev f hev hdf w' hde hk => ?_⟩
       have e : ev (.tmp 1) = .pointer (some ⟨Bv, 0, none⟩) := hev (.tmp 1) (by intro t h; cases h; decide)
       have e1 : w'.cell? ⟨Bv, 0, none⟩ = some (.slice A1 vm c1) := ((((Keeps.refl (fun _ => False) w7).drew).trans hk (fun _ _ h => h)).cell (cell_ltk c67) (fun h => h)).trans c67
       simp only [List.getElem_toArray, List.getElem_cons_succ, List.getElem_cons_zero]
       refine ⟨.slice A1 vm c1, w', ?_, Keeps.refl _ _, ⟨fun _ => rfl, fun h => absurd h (by decide)⟩, fun _ _ _ _ => ⟨trivial, trivial⟩⟩
       go_simp
      ·refine ⟨by simp, _, rfl, rfl, rfl, fun ev f hev hdf w' hde hk => ?_⟩
       have e : ev (.tmp 56) = .agg #[.string X, .int .i64 ty, .int .i64 sl] := hev (.tmp 56) (by intro t h; cases h; decide)
       simp only [List.getElem_toArray, List.getElem_cons_succ, List.getElem_cons_zero]
       refine ⟨.slice (some ⟨w'.heap.size, 0, none⟩) 1 1, w'.alloc (.cells #[.string X, .int .i64 ty, .int .i64 sl] 46), ?_, Keeps.one _ _, ⟨fun h => absurd h (by decide), fun _ => ⟨_, rfl, Loc.new (w := w') (R := fun _ => False) (fun h => h) [.string X, .int .i64 ty, .int .i64 sl] _⟩⟩, fun _ _ _ _ => ⟨trivial, trivial⟩⟩
       go_simp
     ·intro f w8 k8 hV hD
      have e40 : f 0 = .slice A1 vm c1 := (hV 0 (by decide)).1 rfl
      obtain ⟨Y, e57, LY⟩ := (hV 17 (by decide)).2 rfl
      have k78 : Keeps (fun _ => False) w7 w8 := ((Keeps.refl (fun _ => False) w7).drew).trans k8 (fun _ _ h => h)
      simp only [putA, List.foldl, e40, e57]
      simp only [Act.put, List.getElem_toArray, List.getElem_cons_succ, List.getElem_cons_zero, List.setIfInBounds_toArray, List.set_cons_succ, List.set_cons_zero, if_pos, reduceIte, Nat.reduceEqDiff]
      clear hV hD e40 e57
      have hnews : ∀ k u, [Value.string X, Value.int .i64 ty, Value.int .i64 sl][k]? = some u → w8.cell? ((⟨Y, 0, none⟩ : Addr).add k) = some u := fun k u hu => by
       rw [addr_add0]
       exact LY.cells k u hu
      have hx8 := HX7.out.keep k78
      have hown := hx8.own
      rw [← HVM.out] at hown
      refine wpAnyH_ready (rs := [18]) (by kernel_rfl) (by simp) ?_
      refine AllReadyH.cons rfl (fun K' hK => ?_) AllReadyH.nil
      obtain ⟨hi0v, hz0v, hz1v, hz2v⟩ := HI0.out
      refine step_append_atk (by rfl) (.tmp 40) (.tmp 57) 42 (by rfl) 0 46 i0 _ 3 32 Tryz.underlying42 hi0v hz0v hz1v hz2v (by rfl) (by omega) (.slice A1 vm c1) vm (flatV V') (by rfl) hown ⟨Y, 0, none⟩ 1 1 [.string X, .int .i64 ty, .int .i64 sl] (by rfl) (by rfl) hnews (by intro u hu; simp only [List.mem_cons, List.not_mem_nil, or_false] at hu; rcases hu with rfl | rfl | rfl <;> rfl) (by have := HV9r.out; have := HVM.out; omega) (by omega) (Nat.zero_le _) ?_
      intro v5 w9 h5 g5 b5
      clear hi0v hz0v hz1v hz2v hnews
      have hg := (HX7.out).grow (w3 := w8) (w5 := w9) (v5 := v5) k78 ⟨s, ty, sl⟩ (by rw [← HVM.out, ← HX.out]; exact h5) (by rw [← HVM.out]; exact g5) (by rw [← HVM.out]; exact b5)
      rw [← HVM.out] at hg
      obtain ⟨⟨d6, f6⟩, R9, hvs9, hfr9⟩ := hg
      have kown : Keeps (fun b => b = Bv ∨ (Value.slice A1 vm c1).ownBlock = some b) w7 w9 := (k78.mono (T := fun b => b = Bv ∨ (Value.slice A1 vm c1).ownBlock = some b) (fun _ _ h => h.elim)).trans (S := fun b => b = Bv ∨ (Value.slice A1 vm c1).ownBlock = some b) (T := fun b => (Value.slice A1 vm c1).ownBlock = some b) ⟨g5.os, g5.tape, g5.output, g5.size, fun b hb hn => g5.block b hb (fun e => hn e.symm)⟩ (fun _ _ h => .inr h)
      obtain ⟨A5, c5, rfl⟩ := own_formk h5
      refine hK.out _ _ kown (fun hHeld => ?_)
      clear hK K' hHeld
      have kst : Keeps (fun b => b = Bv ∨ (Value.slice A1 vm c1).ownBlock = some b) w7 (w9.setCell ⟨Bv, 0, none⟩ (.slice A5 (vm + 1) c5)) := kown.trans (one_block w9 Bv 0 _) (fun _ _ h => .inl h)
      refine wpAnyH_ready (rs := [19]) (by kernel_rfl) (by simp) ?_
      refine AllReadyH.cons rfl (fun K' hK => ?_) AllReadyH.nil
      go_simp
      refine hK.out _ _ kst (fun hHeld => ?_)
      clear hK K' hHeld
      refine wpAnyH_done (by kernel_rfl) ?_ _
      have HV10 := Lib.hid hvs9
      have HF10 := Lib.hid hfr9
      clear hvs9 hfr9 kown kst d6 f6 h5 g5 b5 hx8 hown LY k8 k78 c67 c6 nR
      generalize w9.setCell ⟨Bv, 0, none⟩ (.slice A5 (vm + 1) c5) = w10 at HV10 HF10 ⊢
      go_wp2_with fail
      go_roundg (gk - 1)
      case measure => go_light; have h1 := HIQ.out; have h2 := HIN.out; omega
      case rel => exact ⟨i + 1, R9, V' ++ [⟨s, ty, sl⟩], by go_num, by have h1 := HIQ.out; have h2 := HIN.out; go_light; omega, by have h2 := HIN.out; go_light; omega, ⟨HV10.out, HLK7.out.p.keep HF10.out, HLK7.out.n.keep HF10.out, HLK7.out.l.keep HF10.out, by have := HNX.out.1; omega⟩, HNX.out.1, HFR7.out.trans HF10.out, HNX.out.2⟩
    ·have b10 : (k == 10) = false := by rcases hk with rfl | rfl <;> rfl
     have hm21 : 2 ≤ m2 := by rw [HM2.out]; exact hl1
     have hm21I : (1 : Int) ≤ (m2 : Int) := by omega
     have z4 := H10.out.cells 4 _ rfl
     obtain ⟨xt, hxt⟩ : ∃ t, t = lx.tail := ⟨_, rfl⟩
     have htl : xt.length + 1 = m2 := by rw [hxt, HM2.out, List.length_tail]; omega
     obtain ⟨e0, he0⟩ : ∃ e, lx[0]? = some e := ⟨_, List.getElem?_eq_getElem (show 0 < lx.length by omega)⟩
     obtain ⟨lb2, lo2, hla2, _⟩ := HRO2.out.get (k := 0) (by omega) he0
     have hc1 : ¬ lc2 = 1 := by
      have h := HCAP2.out
      omega
     have HCT : Hid (∀ (q : Nat) (x : Int), xt[q]? = some x → w0.cell? ⟨lb2, lo2 + 1 + q, none⟩ = some (.int .i64 x)) := Lib.hid (fun q x hq => by
      rw [hxt, List.getElem?_tail] at hq
      obtain ⟨lb3, lo3, e3, hc3⟩ := HRO2.out.get (List.getElem?_eq_some_iff.1 hq).1 hq
      rw [hla2] at e3
      cases e3
      rw [show lo2 + 1 + q = lo2 + (q + 1) by omega]
      exact hc3)
     rw [hla2] at z4
     subst hla2
     have HIN2 := Lib.hid (show InI (LkC nd fs L A A' T S F Z c c' cT cS cF cZ kz w0 node Bv Bp Bn Bl) xt V' rs by rw [hxt]; exact hin2)
     have HTL := Lib.hid htl
     obtain ⟨mi, hmi⟩ : ∃ t, t = xt.length := ⟨_, rfl⟩
     rw [← hmi] at htl
     have HMI := Lib.hid hmi
     have em2 : (m2 : Int) - 1 = (mi : Int) := by omega
     obtain rfl : m2 = mi + 1 := by omega
     clear hin2 hl1 he0 hxt htl hmi hm21
     rcases hk with rfl | rfl
     ·skip
      go_upto_region 13 with fail
      go_wp2_with fail
      obtain ⟨wo, hwo⟩ : ∃ wo, wo = w7 := ⟨_, rfl⟩
      obtain ⟨g0, hg0⟩ : ∃ g0, g0 = gk := ⟨_, rfl⟩
      subst hg0
      go_loopg [12, 66] (mi + 1) (fun gq s12 s66 wq => ∃ (i2 : Nat) (R2 : Nat → Prop) (V2 : List Vb), s66 = .int .i64 i2 ∧ i2 + gq = mi + 1 ∧ i2 ≤ mi ∧ LkW nd fs L A A' T S F Z c c' cT cS cF cZ kz w0 node Bv Bp Bn Bl wq R2 V2 ∧ V2.length ≤ 900 ∧ Fr R w R2 wq ∧ InI (LkC nd fs L A A' T S F Z c c' cT cS cF cZ kz w0 node Bv Bp Bn Bl) (xt.drop i2) V2 rs)
      case atStart => exact ⟨0, R', V', rfl, by omega, by omega, HLK7.out, HV9r.out, HFR7.out, HIN2.out⟩
      case round =>
       obtain ⟨i2, R2, V2, rfl, hiq2, hin2, hlk2, hv2, hfr2, hsq2⟩ := hrel
       have HIQ2 := Lib.hid hiq2
       have HLK2 := Lib.hid hlk2
       have HFR2 := Lib.hid hfr2
       have HSQ2 := Lib.hid hsq2
       have HV2 := Lib.hid hv2
       clear hiq2 hlk2 hfr2 hsq2 hv2
       by_cases hi2 : i2 < mi
       ·have hI2 : (i2 : Int) < (mi : Int) := by omega
        have hdI2 : decide ((i2 : Int) < (mi : Int)) = true := decide_eq_true hI2
        have hi20 : (0 : Int) ≤ (i2 : Int) := by omega
        have wi2 : IntKind.i64.wrap ((i2 : Int) + 1) = (i2 : Int) + 1 := IntWalk.i64_in _ (by omega)
        have HIN3 := Lib.hid hi2
        have hil2 : i2 < xt.length := by rw [← HMI.out]; exact hi2
        obtain ⟨xq, hxq⟩ : ∃ x, x = xt[i2] := ⟨_, rfl⟩
        have lcq := HLK2.out.vs.old (HCT.out i2 xq (by rw [hxq]; exact List.getElem?_eq_getElem hil2))
        have hd2 : xt.drop i2 = xq :: xt.drop (i2 + 1) := by rw [hxq]; exact List.drop_eq_getElem_cons hil2
        have hsq2 := HSQ2.out
        rw [hd2] at hsq2
        have HCL2 : Hid (∃ r2 : Bool × List Vb, LkC nd fs L A A' T S F Z c c' cT cS cF cZ kz w0 node Bv Bp Bn Bl xq V2 r2 ∧ ((r2.1 = true ∧ rs = r2) ∨ (r2.1 = false ∧ r2.2.length ≤ 900 ∧ InI (LkC nd fs L A A' T S F Z c c' cT cS cF cZ kz w0 node Bv Bp Bn Bl) (xt.drop (i2 + 1)) r2.2 rs))) := Lib.hid (by
         cases hsq2 with
         | found _ _ _ V3 h => exact ⟨_, h, .inl ⟨rfl, rfl⟩⟩
         | next _ _ _ V1 _ h h9 h2 => exact ⟨_, h, .inr ⟨rfl, h9, h2⟩⟩)
        have b0 := HLK2.out.l.cells 0 _ rfl
        clear hsq2 hd2 hxq hil2 hi2 hin2 HSQ2
        obtain ⟨r2, hc2, hr2⟩ := HCL2.out
        have HR2 := Lib.hid hr2
        have NC := Lib.hid (hc2 _ _ HLK2.out)
        clear hr2 hc2 HCL2
        cases hb2 : r2.1 with
        | true =>
         rw [hb2] at NC
         have HFIN : Hid (r1 = (true, r2.2)) := Lib.hid (by
          rcases HR2.out with ⟨_, e2⟩ | ⟨e2, _⟩
          ·rcases HRS.out with ⟨_, e⟩ | ⟨e, _⟩
           ·rw [e, e2]; exact Prod.ext hb2 rfl
           ·rw [e2, hb2] at e; cases e
          ·rw [hb2] at e2; cases e2)
         clear hb2
         go_wp2_with fail
         refine NC.out.mono ?_
         rintro e w9 ⟨rfl, R9, hv9, hf9⟩
         have HV9q := Lib.hid hv9
         have HF9 := Lib.hid (HFR2.out.trans hf9)
         clear hv9 hf9 NC lcq b0
         go_wp2_with fail
         go_ret
         rw [HFIN.out]
         exact ⟨rfl, R9, HV9q.out, HF9.out⟩
        | false =>
         rw [hb2] at NC
         have HNX : Hid (r2.2.length ≤ 900 ∧ InI (LkC nd fs L A A' T S F Z c c' cT cS cF cZ kz w0 node Bv Bp Bn Bl) (xt.drop (i2 + 1)) r2.2 rs) := Lib.hid (by
          rcases HR2.out with ⟨e2, _⟩ | ⟨_, h⟩
          ·rw [hb2] at e2; cases e2
          ·exact h)
         clear hb2
         go_wp2_with fail
         refine NC.out.mono ?_
         rintro e w9 ⟨rfl, R9, hv9, hf9⟩
         have HLK9 : Hid (LkW nd fs L A A' T S F Z c c' cT cS cF cZ kz w0 node Bv Bp Bn Bl w9 R9 r2.2) := Lib.hid ⟨hv9, HLK2.out.p.keep hf9, HLK2.out.n.keep hf9, HLK2.out.l.keep hf9, by have := HNX.out.1; omega⟩
         have HF9 := Lib.hid (HFR2.out.trans hf9)
         clear hv9 hf9 NC lcq b0
         go_wp2_with fail
         go_roundg (gk - 1)
         case measure => go_light; have h1 := HIQ2.out; have h2 := HIN3.out; omega
         case rel => exact ⟨i2 + 1, R9, r2.2, by go_num, by have h1 := HIQ2.out; have h2 := HIN3.out; go_light; omega, by have h2 := HIN3.out; go_light; omega, HLK9.out, HNX.out.1, HF9.out, HNX.out.2⟩
       ·obtain rfl : mi = i2 := by omega
        have hI2 : ¬ (mi : Int) < (mi : Int) := by omega
        have hdI2 : decide ((mi : Int) < (mi : Int)) = false := decide_eq_false hI2
        have HR2 : Hid (rs = (false, V2)) := Lib.hid (by
         have h := HSQ2.out
         rw [List.drop_of_length_le (by rw [← HMI.out]; exact Nat.le_refl _)] at h
         cases h
         rfl)
        have HNX : Hid (V2.length ≤ 900 ∧ InI (StC (LkC nd fs L A A' T S F Z c c' cT cS cF cZ kz w0 node Bv Bp Bn Bl) nd L node) (l.drop (i + 1)) V2 r1) := Lib.hid (by
         rcases HRS.out with ⟨e, _⟩ | ⟨_, h9, h⟩
         ·rw [HR2.out] at e; cases e
         ·rw [HR2.out] at h h9; exact ⟨h9, h⟩)
        clear hi2 hin2
        go_wp2_with fail
        go_roundg (g0 - 1)
        case measure => go_light; have h1 := HIQ.out; have h2 := HIN.out; omega
        case rel => exact ⟨i + 1, R2, V2, by go_num, by have h1 := HIQ.out; have h2 := HIN.out; go_light; omega, by have h2 := HIN.out; go_light; omega, HLK2.out, HNX.out.1, HFR2.out, HNX.out.2⟩
     ·skip
      go_upto_region 13 with fail
      go_wp2_with fail
      obtain ⟨wo, hwo⟩ : ∃ wo, wo = w7 := ⟨_, rfl⟩
      obtain ⟨g0, hg0⟩ : ∃ g0, g0 = gk := ⟨_, rfl⟩
      subst hg0
      go_loopg [12, 66] (mi + 1) (fun gq s12 s66 wq => ∃ (i2 : Nat) (R2 : Nat → Prop) (V2 : List Vb), s66 = .int .i64 i2 ∧ i2 + gq = mi + 1 ∧ i2 ≤ mi ∧ LkW nd fs L A A' T S F Z c c' cT cS cF cZ kz w0 node Bv Bp Bn Bl wq R2 V2 ∧ V2.length ≤ 900 ∧ Fr R w R2 wq ∧ InI (LkC nd fs L A A' T S F Z c c' cT cS cF cZ kz w0 node Bv Bp Bn Bl) (xt.drop i2) V2 rs)
      case atStart => exact ⟨0, R', V', rfl, by omega, by omega, HLK7.out, HV9r.out, HFR7.out, HIN2.out⟩
      case round =>
       obtain ⟨i2, R2, V2, rfl, hiq2, hin2, hlk2, hv2, hfr2, hsq2⟩ := hrel
       have HIQ2 := Lib.hid hiq2
       have HLK2 := Lib.hid hlk2
       have HFR2 := Lib.hid hfr2
       have HSQ2 := Lib.hid hsq2
       have HV2 := Lib.hid hv2
       clear hiq2 hlk2 hfr2 hsq2 hv2
       by_cases hi2 : i2 < mi
       ·have hI2 : (i2 : Int) < (mi : Int) := by omega
        have hdI2 : decide ((i2 : Int) < (mi : Int)) = true := decide_eq_true hI2
        have hi20 : (0 : Int) ≤ (i2 : Int) := by omega
        have wi2 : IntKind.i64.wrap ((i2 : Int) + 1) = (i2 : Int) + 1 := IntWalk.i64_in _ (by omega)
        have HIN3 := Lib.hid hi2
        have hil2 : i2 < xt.length := by rw [← HMI.out]; exact hi2
        obtain ⟨xq, hxq⟩ : ∃ x, x = xt[i2] := ⟨_, rfl⟩
        have lcq := HLK2.out.vs.old (HCT.out i2 xq (by rw [hxq]; exact List.getElem?_eq_getElem hil2))
        have hd2 : xt.drop i2 = xq :: xt.drop (i2 + 1) := by rw [hxq]; exact List.drop_eq_getElem_cons hil2
        have hsq2 := HSQ2.out
        rw [hd2] at hsq2
        have HCL2 : Hid (∃ r2 : Bool × List Vb, LkC nd fs L A A' T S F Z c c' cT cS cF cZ kz w0 node Bv Bp Bn Bl xq V2 r2 ∧ ((r2.1 = true ∧ rs = r2) ∨ (r2.1 = false ∧ r2.2.length ≤ 900 ∧ InI (LkC nd fs L A A' T S F Z c c' cT cS cF cZ kz w0 node Bv Bp Bn Bl) (xt.drop (i2 + 1)) r2.2 rs))) := Lib.hid (by
         cases hsq2 with
         | found _ _ _ V3 h => exact ⟨_, h, .inl ⟨rfl, rfl⟩⟩
         | next _ _ _ V1 _ h h9 h2 => exact ⟨_, h, .inr ⟨rfl, h9, h2⟩⟩)
        have b0 := HLK2.out.l.cells 0 _ rfl
        clear hsq2 hd2 hxq hil2 hi2 hin2 HSQ2
        obtain ⟨r2, hc2, hr2⟩ := HCL2.out
        have HR2 := Lib.hid hr2
        have NC := Lib.hid (hc2 _ _ HLK2.out)
        clear hr2 hc2 HCL2
        cases hb2 : r2.1 with
        | true =>
         rw [hb2] at NC
         have HFIN : Hid (r1 = (true, r2.2)) := Lib.hid (by
          rcases HR2.out with ⟨_, e2⟩ | ⟨e2, _⟩
          ·rcases HRS.out with ⟨_, e⟩ | ⟨e, _⟩
           ·rw [e, e2]; exact Prod.ext hb2 rfl
           ·rw [e2, hb2] at e; cases e
          ·rw [hb2] at e2; cases e2)
         clear hb2
         go_wp2_with fail
         refine NC.out.mono ?_
         rintro e w9 ⟨rfl, R9, hv9, hf9⟩
         have HV9q := Lib.hid hv9
         have HF9 := Lib.hid (HFR2.out.trans hf9)
         clear hv9 hf9 NC lcq b0
         go_wp2_with fail
         go_ret
         rw [HFIN.out]
         exact ⟨rfl, R9, HV9q.out, HF9.out⟩
        | false =>
         rw [hb2] at NC
         have HNX : Hid (r2.2.length ≤ 900 ∧ InI (LkC nd fs L A A' T S F Z c c' cT cS cF cZ kz w0 node Bv Bp Bn Bl) (xt.drop (i2 + 1)) r2.2 rs) := Lib.hid (by
          rcases HR2.out with ⟨e2, _⟩ | ⟨_, h⟩
          ·rw [hb2] at e2; cases e2
          ·exact h)
         clear hb2
         go_wp2_with fail
         refine NC.out.mono ?_
         rintro e w9 ⟨rfl, R9, hv9, hf9⟩
         have HLK9 : Hid (LkW nd fs L A A' T S F Z c c' cT cS cF cZ kz w0 node Bv Bp Bn Bl w9 R9 r2.2) := Lib.hid ⟨hv9, HLK2.out.p.keep hf9, HLK2.out.n.keep hf9, HLK2.out.l.keep hf9, by have := HNX.out.1; omega⟩
         have HF9 := Lib.hid (HFR2.out.trans hf9)
         clear hv9 hf9 NC lcq b0
         go_wp2_with fail
         go_roundg (gk - 1)
         case measure => go_light; have h1 := HIQ2.out; have h2 := HIN3.out; omega
         case rel => exact ⟨i2 + 1, R9, r2.2, by go_num, by have h1 := HIQ2.out; have h2 := HIN3.out; go_light; omega, by have h2 := HIN3.out; go_light; omega, HLK9.out, HNX.out.1, HF9.out, HNX.out.2⟩
       ·obtain rfl : mi = i2 := by omega
        have hI2 : ¬ (mi : Int) < (mi : Int) := by omega
        have hdI2 : decide ((mi : Int) < (mi : Int)) = false := decide_eq_false hI2
        have HR2 : Hid (rs = (false, V2)) := Lib.hid (by
         have h := HSQ2.out
         rw [List.drop_of_length_le (by rw [← HMI.out]; exact Nat.le_refl _)] at h
         cases h
         rfl)
        have HNX : Hid (V2.length ≤ 900 ∧ InI (StC (LkC nd fs L A A' T S F Z c c' cT cS cF cZ kz w0 node Bv Bp Bn Bl) nd L node) (l.drop (i + 1)) V2 r1) := Lib.hid (by
         rcases HRS.out with ⟨e, _⟩ | ⟨_, h9, h⟩
         ·rw [HR2.out] at e; cases e
         ·rw [HR2.out] at h h9; exact ⟨h9, h⟩)
        clear hi2 hin2
        go_wp2_with fail
        go_roundg (g0 - 1)
        case measure => go_light; have h1 := HIQ.out; have h2 := HIN.out; omega
        case rel => exact ⟨i + 1, R2, V2, by go_num, by have h1 := HIQ.out; have h2 := HIN.out; go_light; omega, by have h2 := HIN.out; go_light; omega, HLK2.out, HNX.out.1, HFR2.out, HNX.out.2⟩
    ·have b10 : (k == 10) = false := by simpa using hk1
     have b15 : (k == 15) = false := by simpa using hk2
     have b16 : (k == 16) = false := by simpa using hk3
     have HNX : Hid (InI (StC (LkC nd fs L A A' T S F Z c c' cT cS cF cZ kz w0 node Bv Bp Bn Bl) nd L node) (l.drop (i + 1)) V' r1) := Lib.hid (by
      rcases HRS.out with ⟨e, _⟩ | ⟨_, _, h⟩
      ·rw [hrr] at e; cases e
      ·rw [hrr] at h; exact h)
     clear hk1 hk2 hk3 hrr
     go_wp2_with fail
     go_roundg (gk - 1)
     case measure => go_light; have h1 := HIQ.out; have h2 := HIN.out; omega
     case rel => exact ⟨i + 1, R', V', by go_num, by have h1 := HIQ.out; have h2 := HIN.out; go_light; omega, by have h2 := HIN.out; go_light; omega, HLK7.out, HV9r.out, HFR7.out, HNX.out⟩
  ·obtain rfl : m = i := by omega
   have hI : ¬ (m : Int) < (m : Int) := by omega
   have hdI : decide ((m : Int) < (m : Int)) = false := decide_eq_false hI
   have HR : Hid (r1 = (false, V')) := Lib.hid (by
    have h := HSQ.out
    rw [List.drop_of_length_le (by rw [← HMM.out]; exact Nat.le_refl _)] at h
    cases h
    rfl)
   have hle : vn ≤ V'.length := by
    have h := HLEN.out (by rw [HR.out])
    rw [HR.out] at h
    rw [HVN.out]
    exact h
   obtain ⟨v', hx'⟩ := HLK.out.vs
   obtain ⟨A1, k1, rfl⟩ := own_formk hx'.own
   have hcap := own_cap hx'.own
   have hcut := hx'.cut rfl vn hle
   have c6 := hx'.c
   have z6 := hx'.fz
   have HCUT := Lib.hid hcut
   have HFRC := Lib.hid (HFR.out.trans hcut.2)
   obtain ⟨vl, hvl'⟩ : ∃ m, m = V'.length := ⟨_, rfl⟩
   replace c6 : wr.cell? ⟨Bv, 0, none⟩ = some (.slice A1 vl k1) := by rw [hvl']; exact c6
   rw [← hvl'] at hle hcap
   clear hx' hcut hvl' hin hin1
   rcases hcap with ⟨rfl, rfl, rfl⟩ | ⟨g, rfl, hle2⟩
   ·obtain rfl : vn = 0 := by omega
    go_wp2_with fail
    go_ret
    rw [HR.out]
    refine ⟨rfl, R', ?_, HFRC.out⟩
    show Vs _ _ _ _ (V'.take V.length)
    rw [← HVN.out]
    exact HCUT.out.1
   ·have hvnI : (vn : Int) ≤ (k1 : Int) := by omega
    have hvn0 : (0 : Int) ≤ (vn : Int) := by omega
    have hvk : vn ≤ k1 := by omega
    go_wp2_with fail
    go_ret
    rw [HR.out]
    refine ⟨rfl, R', ?_, HFRC.out⟩
    show Vs _ _ _ _ (V'.take V.length)
    rw [← HVN.out]
    exact HCUT.out.1
end Go.Proofs.YtbhpnioggpgbhaaGreatDoor
