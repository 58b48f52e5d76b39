/-
 Layer 4: contracts of the checker's parts; the program's block. Written by an AI agent.
 Layer 4: the program's node. Written by an AI agent.
-/
import Derived.Test.YtbhpnioggpgbhaaGreatDoorMcbb
namespace Go.Proofs.YtbhpnioggpgbhaaGreatDoor
open Go Go.RowKit Go.Shelf
set_option linter.unusedVariables false
set_option linter.unusedSimpArgs false
abbrev RS := Except (Int × Int) CkS
section
variable (q : CkQ) (nd : List Nd) (fs : List Fnc) (w0 : World)
/-- What a part tells, and what it leaves. -/
def OutC (R : Nat → Prop) (w : World) (r : RS) (e : Ending) (w' : World) : Prop :=
 ∃ R' s', Ck w' q nd fs w0 R' s' ∧ Fr R w R' w' ∧ match r with | .ok s1 => e = .returned (.bool true) ∧ s' = s1 | .error z => e = .returned (.bool false) ∧ s'.bad = z.1 ∧ s'.e = z.2
def NdC (at_ : Int) (s : CkS) (r : RS) : Prop := ∀ w R, Ck w q nd fs w0 R s → Calls Tryz.prog 80 #[.pointer (some ⟨q.P, 0, none⟩), .int .i64 at_] w (OutC q nd fs w0 R w r)
def BlkC (at_ : Int) (s : CkS) (r : RS) : Prop := ∀ w R, Ck w q nd fs w0 R s → Calls Tryz.prog 49 #[.pointer (some ⟨q.P, 0, none⟩), .int .i64 at_] w (OutC q nd fs w0 R w r)
end
/-- Parts, one behind the other; some are passed over. -/
inductive SeqI (P : Nat → Bool) (C : Int → CkS → RS → Prop) : Nat → List Int → CkS → RS → Prop
 | nil (i : Nat) (s : CkS) : SeqI P C i [] s (.ok s)
 | skip (i : Nat) (x : Int) (l : List Int) (s : CkS) (r : RS) : P i = false → SeqI P C (i + 1) l s r → SeqI P C i (x :: l) s r
 | ok (i : Nat) (x : Int) (l : List Int) (s s1 : CkS) (r : RS) : P i = true → C x s (.ok s1) → SeqI P C (i + 1) l s1 r → SeqI P C i (x :: l) s r
 | bad (i : Nat) (x : Int) (l : List Int) (s : CkS) (z : Int × Int) : P i = true → C x s (.error z) → SeqI P C i (x :: l) s (.error z)
theorem own_cap {w : World} {T : TypeId} {size n c : Nat} {A : Option Addr} {xs : List Value} (h : w.ownsRow 0 T size (.slice A n c) n xs) : (A = none ∧ n = 0 ∧ c = 0) ∨ (∃ g, A = some ⟨g, 0, none⟩ ∧ n ≤ c) := by
 obtain ⟨h1, h2⟩ := h
 rcases h2 with ⟨e, rfl⟩ | ⟨g, cap, cur, e, h3, h4, h5, h6, h7, h8⟩
 ·injection e with e1 e2 e3
  exact .inl ⟨e1, rfl, e3⟩
 ·injection e with e1 e2 e3
  exact .inr ⟨g, e1, by omega⟩
/-- What a block leaves. -/
def blkR (n : Nat) : RS → RS
 | .ok s1 => .ok { s1 with V := s1.V.take n }
 | .error z => .error z
theorem CkX.cut {w : World} {q : CkQ} {nd : List Nd} {fs : List Fnc} {w0 : World} {R : Nat → Prop} {s : CkS} {A : Option Addr} {m c : Nat} (h : CkX w q nd fs w0 R s (.slice A m c)) (hm : m = s.V.length) (n : Nat) (hn : n ≤ m) : Ck (w.setCell ⟨q.P, 6, none⟩ (.slice A n c)) q nd fs w0 R { s with V := s.V.take n } ∧ Fr R w R (w.setCell ⟨q.P, 6, none⟩ (.slice A n c)) := by
 have ho := h.own
 rw [← hm] at ho
 have ht := ownsRow_take ho n hn
 have g := h.setV (s.V.take n) (.slice A n c) (by rw [List.length_take, Nat.min_eq_left (by omega), ← flatV_take]; exact ht) (fun g hg => h.vb g (by cases A with | none => cases hg | some a => exact hg))
 exact ⟨⟨_, g.1⟩, g.2⟩
set_option maxRecDepth 100000 in
set_option maxHeartbeats 16000000 in
theorem pblockC {q : CkQ} {nd : List Nd} {fs : List Fnc} {w0 : World} {s : CkS} (j : Nat) (hj : j < q.m) (k n : Int) (x : List UInt8) (l : List Int) (hat : At nd (j : Int) k n x l) (r : RS) (hq : SeqI (fun _ => true) (NdC q nd fs w0) 0 l { s with ff := s.ff.set j s.fn } r) (hV : s.V.length ≤ 1000) (hl6 : l.length ≤ 1000000) (hg : ∀ s1, r = .ok s1 → s.V.length ≤ s1.V.length) :
  BlkC q nd fs w0 (j : Int) s (blkR s.V.length r) := by
 intro w R h
 have HH := Lib.hid h
 obtain ⟨v, hx⟩ := h
 have c4 := hx.c4
 have c7 := hx.c7
 have hjs : j < s.ff.length := by rw [hx.lF]; exact hj
 have zc := hx.tF.cell j _ (List.getElem?_eq_getElem hjs)
 have zf := hx.tF.fz j
 have hjI : (j : Int) < (q.m : Int) := by omega
 have hj0 : (0 : Int) ≤ (j : Int) := by omega
 generalize (s.ff[j]) = u at zc
 obtain ⟨P, hPP⟩ : ∃ P, P = q.P := ⟨_, rfl⟩
 obtain ⟨FF, hFF⟩ : ∃ P, P = q.F := ⟨_, rfl⟩
 obtain ⟨M, hMM⟩ : ∃ P, P = q.m := ⟨_, rfl⟩
 obtain ⟨fn, hfn⟩ : ∃ P, P = s.fn := ⟨_, rfl⟩
 rw [← hPP, ← hFF, ← hMM] at c4
 rw [← hPP, ← hfn] at c7
 rw [← hFF] at zc zf
 rw [← hMM] at hjI
 rw [← hPP]
 have HP := Lib.hid hPP
 have hset := HH.out.setF j s.fn hj
 rw [← hFF, ← hfn] at hset
 obtain ⟨w2, hw2⟩ : ∃ w2, w2 = (w.setCell ⟨FF, j, none⟩ (.int .i64 fn)).drew := ⟨_, rfl⟩
 have kd : Keeps (fun _ => False) (w.setCell ⟨FF, j, none⟩ (.int .i64 fn)) w2 := by rw [hw2]; exact (Keeps.refl (fun _ => False) _).drew
 have HC2 := Lib.hid (hset.1.keep kd)
 have HF2 := Lib.hid (hset.2.keeps kd)
 have HJ := Lib.hid hj
 have HG := Lib.hid hg
 have HQ : Hid (SeqI (fun _ => true) (NdC q nd fs w0) 0 l { s with ff := s.ff.set j fn, fn := fn } r) := Lib.hid (by rw [hfn]; exact hq)
 clear hx hset kd hj hg hq hjs hPP hFF hMM hfn
 go_enter Tryz.func49, Tryz.ntmps49
 go_upto_region 1 with fail
 go_region
 rw [← hw2]
 clear hw2 c4 c7 zc zf hjI HH
 obtain ⟨v2, hx2⟩ := HC2.out
 obtain ⟨A2, k2, rfl⟩ := own_formk hx2.own
 have c6 := hx2.c6
 have c0 := hx2.c0
 obtain ⟨jj, nb, no, ln, la, lc, ejj, hjn, hA, hN⟩ := hx2.tree.node hat
 have ejj : j = jj := by omega
 subst ejj
 have n4 := (hx2.up.cell (cell_ltk hN.c4) (by have := cell_ltk hN.c4; omega)).trans hN.c4
 have HRO := Lib.hid hN.ro
 rw [hA] at c0
 rw [← HP.out] at c6 c0
 have hjM : (j : Int) < (q.m : Int) := by have := HJ.out; omega
 obtain ⟨MM, hMM⟩ : ∃ M, M = q.m := ⟨_, rfl⟩
 obtain ⟨cc, hcc⟩ : ∃ M, M = q.c := ⟨_, rfl⟩
 rw [← hMM, ← hcc] at c0
 rw [← hMM] at hjM
 obtain ⟨m, hm⟩ : ∃ m, m = l.length := ⟨_, rfl⟩
 rw [← hm] at n4 hl6
 have HM := Lib.hid hm
 obtain ⟨vn, hvn⟩ : ∃ m, m = s.V.length := ⟨_, rfl⟩
 replace c6 : w2.cell? ⟨P, 6, none⟩ = some (.slice A2 vn k2) := by rw [hvn]; exact c6
 rw [← hvn] at hV HG ⊢
 have HVN := Lib.hid hvn
 clear hx2 hN hMM hcc hm hvn hA
 go_wp2_with fail
 go_loopg [7, 35] (m + 1) (fun gq s7 s35 wr => ∃ (i : Nat) (R' : Nat → Prop) (s' : CkS), s35 = .int .i64 i ∧ i + gq = m + 1 ∧ i ≤ m ∧ Ck wr q nd fs w0 R' s' ∧ Fr R w R' wr ∧ SeqI (fun _ => true) (NdC q nd fs w0) i (l.drop i) s' r)
 case atStart => exact ⟨0, R, _, rfl, by omega, by omega, HC2.out, HF2.out, HQ.out⟩
 case round =>
  obtain ⟨i, R', s', rfl, hiq, hin1, hck, hfr, hseq⟩ := hrel
  have HIQ := Lib.hid hiq
  have HCK := Lib.hid hck
  have HFR := Lib.hid hfr
  have HSQ := Lib.hid hseq
  clear hiq hck hfr hseq c0 c6 n4
  by_cases hin : i < m
  ·have hI : (i : Int) < (m : Int) := by omega
   have hdI : decide ((i : Int) < (m : Int)) = true := decide_eq_true hI
   have hi0 : (0 : Int) ≤ (i : Int) := by omega
   have wi : IntKind.i64.wrap ((i : Int) + 1) = (i : Int) + 1 := IntWalk.i64_in _ (by omega)
   have HIN := Lib.hid hin
   have hil : i < l.length := by rw [← HM.out]; exact hin
   obtain ⟨xi, hxi⟩ : ∃ x, x = l[i] := ⟨_, rfl⟩
   obtain ⟨lb, lo, hla, hlc⟩ := HRO.out.get hil (show l[i]? = some xi by rw [hxi]; exact List.getElem?_eq_getElem hil)
   have lcr : wr.cell? ⟨lb, lo + i, none⟩ = some (.int .i64 xi) := by
    obtain ⟨v', hx'⟩ := HCK.out
    exact (hx'.up.cell (cell_ltk hlc) (by have := cell_ltk hlc; omega)).trans hlc
   subst hla
   have hd : l.drop i = xi :: l.drop (i + 1) := by rw [hxi]; exact List.drop_eq_getElem_cons hil
   have hsq := HSQ.out
   rw [hd] at hsq
   have HCL : Hid ((∃ s1, NdC q nd fs w0 xi s' (.ok s1) ∧ SeqI (fun _ => true) (NdC q nd fs w0) (i + 1) (l.drop (i + 1)) s1 r) ∨ (∃ z, r = .error z ∧ NdC q nd fs w0 xi s' (.error z))) := Lib.hid (by
    cases hsq with
    | skip _ _ _ _ _ h _ => exact absurd h (by simp)
    | ok _ _ _ _ s1 _ _ h1 h2 => exact .inl ⟨s1, h1, h2⟩
    | bad _ _ _ _ z _ h1 => exact .inr ⟨z, rfl, h1⟩)
   clear hsq hd hlc hxi hil hin hin1 HSQ
   rcases HCL.out with ⟨s1, h1, h2⟩ | ⟨z, hz, h1⟩
   ·have NC := Lib.hid (h1 _ _ HCK.out)
    rw [← HP.out] at NC
    have H2 := Lib.hid h2
    clear h1 h2 HCL HCK
    go_wp2_with fail
    refine NC.out.mono ?_
    rintro e w3 ⟨R2, s2, hp, hf, rfl, rfl⟩
    have HC3 := Lib.hid hp
    have HF3 := Lib.hid (HFR.out.trans hf)
    clear hp hf NC lcr
    go_wp2_with fail
    go_roundg (gk - 1)
    case measure => go_light; have h1 := HIQ.out; have h2 := HIN.out; omega
    case rel => exact ⟨i + 1, R2, s2, by go_num, by have h1 := HIQ.out; have h2 := HIN.out; go_light; omega, by have h2 := HIN.out; go_light; omega, HC3.out, HF3.out, H2.out⟩
   ·have NC := Lib.hid (h1 _ _ HCK.out)
    rw [← HP.out] at NC
    have HZ := Lib.hid hz
    clear h1 hz HCL HCK
    go_wp2_with fail
    refine NC.out.mono ?_
    rintro e w3 ⟨R2, s2, hp, hf, rfl, hb1, hb2⟩
    have HC3 := Lib.hid hp
    have HF3 := Lib.hid (HFR.out.trans hf)
    have HB := Lib.hid (And.intro hb1 hb2)
    clear hp hf NC lcr hb1 hb2
    go_wp2_with fail
    go_ret
    rw [HZ.out]
    exact ⟨R2, s2, HC3.out, HF3.out, rfl, HB.out.1, HB.out.2⟩
  ·obtain rfl : m = i := by omega
   have hI : ¬ (m : Int) < (m : Int) := by omega
   have hdI : decide ((m : Int) < (m : Int)) = false := decide_eq_false hI
   have HR : Hid (r = .ok s') := Lib.hid (by
    have h := HSQ.out
    rw [List.drop_of_length_le (by rw [← HM.out]; exact Nat.le_refl _)] at h
    cases h
    rfl)
   obtain ⟨v', hx'⟩ := HCK.out
   obtain ⟨A', k', rfl⟩ := own_formk hx'.own
   have hvl := HG.out s' HR.out
   have hcap := own_cap hx'.own
   have hcut := hx'.cut rfl vn hvl
   have c6 := hx'.c6
   have z6 := hx'.fz 6
   rw [← HP.out] at c6 z6 hcut
   have HCUT := Lib.hid hcut
   have HFRC := Lib.hid (HFR.out.trans hcut.2)
   obtain ⟨vl, hvl'⟩ : ∃ m, m = s'.V.length := ⟨_, rfl⟩
   replace c6 : wr.cell? ⟨P, 6, none⟩ = some (.slice A' vl k') := by rw [hvl']; exact c6
   rw [← hvl'] at hvl hcap
   clear hx' hcut hvl' hin hin1
   rcases hcap with ⟨rfl, rfl, rfl⟩ | ⟨g, rfl, hle⟩
   ·obtain rfl : vn = 0 := by omega
    go_wp2_with fail
    go_ret
    rw [HR.out]
    exact ⟨R', _, HCUT.out.1, HFRC.out, rfl, by rw [← HVN.out]⟩
   ·have hvnI : (vn : Int) ≤ (k' : Int) := by omega
    have hvn0 : (0 : Int) ≤ (vn : Int) := by omega
    have hvk : vn ≤ k' := by omega
    go_wp2_with fail
    go_ret
    rw [HR.out]
    exact ⟨R', _, HCUT.out.1, HFRC.out, rfl, by rw [← HVN.out]⟩
end Go.Proofs.YtbhpnioggpgbhaaGreatDoor

namespace Go.Proofs.YtbhpnioggpgbhaaGreatDoor
open Go Go.RowKit Go.Shelf
set_option linter.unusedVariables false
set_option linter.unusedSimpArgs false
section
variable (q : CkQ) (nd : List Nd) (fs : List Fnc) (w0 : World)
def OutE (R : Nat → Prop) (w : World) (z : Int) (s1 : CkS) (e : Ending) (w' : World) : Prop := e = .returned (.int .i64 z) ∧ ∃ R', Ck w' q nd fs w0 R' s1 ∧ Fr R w R' w'
def NmC (j : Nat) (k n : Int) (x : List UInt8) (l : List Int) (s : CkS) (z : Int) (s1 : CkS) : Prop := ∀ w R ln a c, Ck w q nd fs w0 R s → RdI w0 a l → Calls Tryz.prog 101 #[.pointer (some ⟨q.P, 0, none⟩), .int .i64 j, .agg #[.int .i64 k, .int .i64 ln, .int .i64 n, .string (ofL x), .slice a l.length c]] w (OutE q nd fs w0 R w z s1)
def LtC (j : Nat) (k n : Int) (x : List UInt8) (l : List Int) (s : CkS) (z : Int) (s1 : CkS) : Prop := ∀ w R ln a c, Ck w q nd fs w0 R s → RdI w0 a l → Calls Tryz.prog 104 #[.pointer (some ⟨q.P, 0, none⟩), .int .i64 j, .agg #[.int .i64 k, .int .i64 ln, .int .i64 n, .string (ofL x), .slice a l.length c]] w (OutE q nd fs w0 R w z s1)
def TlC (k n : Int) (x : List UInt8) (l : List Int) (s : CkS) (t z : Int) : Prop := ∀ w R ln a c, Ck w q nd fs w0 R s → RdI w0 a l → Calls Tryz.prog 103 #[.pointer (some ⟨q.P, 0, none⟩), .agg #[.int .i64 k, .int .i64 ln, .int .i64 n, .string (ofL x), .slice a l.length c]] w fun e w' => e = .returned (.tuple #[.int .i64 t, .int .i64 z]) ∧ Keeps (fun _ => False) w w'
/-- Behind the expressions: the type, the blocks. -/
def NdL (j : Nat) (k : Int) (l : List Int) (t : Int) (s : CkS) (r : RS) : Prop := SeqI (fun i => isBlkK k i) (BlkC q nd fs w0) 0 l { s with ty := s.ty.set j t } r
/-- What a node comes to. -/
def NdR (j : Nat) (k n : Int) (x : List UInt8) (l : List Int) (s : CkS) (r : RS) : Prop :=
 ∃ z1 s1, NmC q nd fs w0 j k n x l s z1 s1 ∧ ((z1 ≠ 0 ∧ r = .error ((j : Int), z1)) ∨ (z1 = 0 ∧ ∃ r1, SeqI (fun i => !isBlkK k i) (NdC q nd fs w0) 0 l s1 r1 ∧
  ((∃ z, r1 = .error z ∧ r = .error z) ∨ (∃ s2 t z, r1 = .ok s2 ∧ TlC q nd fs w0 k n x l s2 t z ∧ ((z ≠ 0 ∧ r = .error ((j : Int), z)) ∨ (z = 0 ∧
   ((k = 10 ∧ ∃ z2 s3, LtC q nd fs w0 j k n x l s2 z2 s3 ∧ ((z2 ≠ 0 ∧ r = .error ((j : Int), z2)) ∨ (z2 = 0 ∧ NdL q nd fs w0 j k l t s3 r))) ∨ (k ≠ 10 ∧ NdL q nd fs w0 j k l t s2 r))))))))
end
set_option maxRecDepth 100000 in
set_option maxHeartbeats 16000000 in
theorem pnodeC {q : CkQ} {nd : List Nd} {fs : List Fnc} {w0 : World} {s : CkS} (j : Nat) (hj : j < q.m) (k n : Int) (x : List UInt8) (l : List Int) (hat : At nd (j : Int) k n x l) (hl6 : l.length ≤ 1000000) (r : RS) (hq : NdR q nd fs w0 j k n x l { s with ff := s.ff.set j s.fn } r) :
  NdC q nd fs w0 (j : Int) s r := by
 intro w R h
 have HH := Lib.hid h
 obtain ⟨v, hx⟩ := h
 have c4 := hx.c4
 have c7 := hx.c7
 have c0 := hx.c0
 have hjs : j < s.ff.length := by rw [hx.lF]; exact hj
 have zc := hx.tF.cell j _ (List.getElem?_eq_getElem hjs)
 have zf := hx.tF.fz j
 have hjI : (j : Int) < (q.m : Int) := by omega
 have hj0 : (0 : Int) ≤ (j : Int) := by omega
 generalize (s.ff[j]) = u at zc
 obtain ⟨jj, nb, no, ln, la, lc, ejj, hjn, hA, hN⟩ := hx.tree.node hat
 have ejj : j = jj := by omega
 subst ejj
 have n0 := (hx.up.cell (cell_ltk hN.c0) (by have := cell_ltk hN.c0; omega)).trans hN.c0
 have n1 := (hx.up.cell (cell_ltk hN.c1) (by have := cell_ltk hN.c1; omega)).trans hN.c1
 have n2 := (hx.up.cell (cell_ltk hN.c2) (by have := cell_ltk hN.c2; omega)).trans hN.c2
 have n3 := (hx.up.cell (cell_ltk hN.c3) (by have := cell_ltk hN.c3; omega)).trans hN.c3
 have n4 := (hx.up.cell (cell_ltk hN.c4) (by have := cell_ltk hN.c4; omega)).trans hN.c4
 have HRO := Lib.hid hN.ro
 rw [hA] at c0
 obtain ⟨P, hPP⟩ : ∃ P, P = q.P := ⟨_, rfl⟩
 obtain ⟨FF, hFF⟩ : ∃ P, P = q.F := ⟨_, rfl⟩
 obtain ⟨M, hMM⟩ : ∃ P, P = q.m := ⟨_, rfl⟩
 obtain ⟨cc, hcc⟩ : ∃ P, P = q.c := ⟨_, rfl⟩
 obtain ⟨fn, hfn⟩ : ∃ P, P = s.fn := ⟨_, rfl⟩
 obtain ⟨m, hm⟩ : ∃ m, m = l.length := ⟨_, rfl⟩
 obtain ⟨X, hX⟩ : ∃ X, X = ofL x := ⟨_, rfl⟩
 rw [← hPP, ← hFF, ← hMM] at c4
 rw [← hPP, ← hfn] at c7
 rw [← hPP, ← hMM, ← hcc] at c0
 rw [← hFF] at zc zf
 rw [← hMM] at hjI
 rw [← hm] at n4 hl6
 rw [← hX] at n3
 rw [← hPP]
 have HP := Lib.hid hPP
 have HM := Lib.hid hm
 have HX := Lib.hid hX
 have HJ := Lib.hid hj
 have HFF := Lib.hid hFF
 have HFN := Lib.hid hfn
 have HQ := Lib.hid hq
 have hPlt := hx.lt _ hx.rP
 have hFlt := hx.lt _ hx.rF
 rw [← hPP] at hPlt
 rw [← hFF] at hFlt
 have HLT := Lib.hid (And.intro hPlt hFlt)
 have hnR : ¬ R w.heap.size := HH.out.new
 have HNR := Lib.hid hnR
 clear hx hN hA hPP hFF hMM hcc hfn hm hX hj hq hjs hat hPlt hFlt hnR
 go_enter Tryz.func80, Tryz.ntmps80
 go_upto_region 2 with fail
 obtain ⟨P5, hP5⟩ : ∃ X, X = w.heap.size := ⟨_, rfl⟩
 obtain ⟨w1, hw1⟩ : ∃ w1, w1 = w.alloc (.cells #[.int .i64 k, .int .i64 ln, .int .i64 n, .string X, .slice la m lc] 41) := ⟨_, rfl⟩
 have ka := Keeps.one w (.cells #[.int .i64 k, .int .i64 ln, .int .i64 n, .string X, .slice la m lc] 41)
 have L1 : Loc w1 R P5 [.int .i64 k, .int .i64 ln, .int .i64 n, .string X, .slice la m lc] := by rw [hw1, hP5]; exact Loc.new HNR.out [.int .i64 k, .int .i64 ln, .int .i64 n, .string X, .slice la m lc] 41
 rw [← hP5]
 rw [← hw1] at ka ⊢
 have d4 := (ka.cell HLT.out.1 (fun h => h)).trans c4
 have d7 := (ka.cell HLT.out.1 (fun h => h)).trans c7
 have ez := (ka.cell HLT.out.2 (fun h => h)).trans zc
 have ef := (ka.frozen HLT.out.2 (fun h => h)).trans zf
 have HC1 := Lib.hid (HH.out.keep ka)
 have HF1 := Lib.hid ((Fr.refl R w).keeps ka)
 have HL1 := Lib.hid L1
 clear ka hw1 hP5 L1 c4 c7 zc zf c0 n0 n1 n2 n3 n4 HH
 go_region
 obtain ⟨w2, hw2⟩ : ∃ w2, w2 = (w1.setCell ⟨FF, j, none⟩ (.int .i64 fn)).drew := ⟨_, rfl⟩
 have hset := HC1.out.setF j s.fn HJ.out
 rw [← HFF.out, ← HFN.out] at hset
 have kd : Keeps (fun _ => False) (w1.setCell ⟨FF, j, none⟩ (.int .i64 fn)) w2 := by rw [hw2]; exact (Keeps.refl (fun _ => False) _).drew
 rw [← hw2]
 have HC2 := Lib.hid (hset.1.keep kd)
 have hf2 := hset.2.keeps kd
 have HL2 := Lib.hid (HL1.out.keep hf2)
 have HF2 := Lib.hid (HF1.out.trans hf2)
 rw [← HFN.out] at HQ
 clear hset kd hf2 hw2 d4 d7 ez ef HC1 HF1 HL1
 obtain ⟨z1, s1, hNm, hq2⟩ := HQ.out
 have HQ2 := Lib.hid hq2
 have NC := Lib.hid (hNm w2 R ln la lc HC2.out HRO.out)
 rw [← HP.out, ← HM.out, ← HX.out] at NC
 have b0 := HL2.out.cells 0 _ rfl
 have b1 := HL2.out.cells 1 _ rfl
 have b2 := HL2.out.cells 2 _ rfl
 have b3 := HL2.out.cells 3 _ rfl
 have b4 := HL2.out.cells 4 _ rfl
 clear hNm hq2 HQ
 go_wp2_with fail
 refine NC.out.mono ?_
 rintro e w3 ⟨rfl, R3, hp, hf⟩
 have HC3 := Lib.hid hp
 have HL3 := Lib.hid (HL2.out.keep hf)
 have HF3 := Lib.hid (HF2.out.trans hf)
 clear hp hf NC b0 b1 b2 b3 b4 HC2 HL2 HF2
 rcases HQ2.out with ⟨hz1, hr⟩ | ⟨hz1, r1, hs1, hq3⟩
 ·have hz1b : (z1 == 0) = false := by simpa using hz1
  have HR := Lib.hid hr
  have NC := Lib.hid (pfail_any HC3.out (j : Int) z1)
  rw [← HP.out] at NC
  clear hr HQ2 hz1
  go_wp2_with fail
  refine NC.out.mono ?_
  rintro e w4 ⟨rfl, hp, hf⟩
  have HC4 := Lib.hid hp
  have HF4 := Lib.hid (HF3.out.trans hf)
  clear hp hf NC
  go_wp2_with fail
  go_ret
  rw [HR.out]
  exact ⟨R3, _, HC4.out, HF4.out, rfl, rfl, rfl⟩
 ·subst hz1
  have HS1 := Lib.hid hs1
  have HQ3 := Lib.hid hq3
  have b4 := HL3.out.cells 4 _ rfl
  clear hs1 hq3 HQ2
  go_wp2_with fail
  go_loopg [7, 8, 46] (m + 1) (fun gq s7 s8 s46 wr => ∃ (i : Nat) (R' : Nat → Prop) (s' : CkS), s46 = .int .i64 i ∧ i + gq = m + 1 ∧ i ≤ m ∧ Ck wr q nd fs w0 R' s' ∧ Loc wr R' P5 [.int .i64 k, .int .i64 ln, .int .i64 n, .string X, .slice la m lc] ∧ Fr R w R' wr ∧ SeqI (fun i => !isBlkK k i) (NdC q nd fs w0) i (l.drop i) s' r1)
  case atStart => exact ⟨0, R3, _, rfl, by omega, by omega, HC3.out, HL3.out, HF3.out, HS1.out⟩
  case round =>
   obtain ⟨i, R', s', rfl, hiq, hin1, hck, hlc5, hfr, hseq⟩ := hrel
   have HIQ := Lib.hid hiq
   have HCK := Lib.hid hck
   have HLr := Lib.hid hlc5
   have HFR := Lib.hid hfr
   have HSQ := Lib.hid hseq
   clear hiq hck hfr hseq hlc5 b4
   by_cases hin : i < m
   ·have hI : (i : Int) < (m : Int) := by omega
    have hdI : decide ((i : Int) < (m : Int)) = true := decide_eq_true hI
    have hi0 : (0 : Int) ≤ (i : Int) := by omega
    have wi : IntKind.i64.wrap ((i : Int) + 1) = (i : Int) + 1 := IntWalk.i64_in _ (by omega)
    have HIN := Lib.hid hin
    have hil : i < l.length := by rw [← HM.out]; exact hin
    obtain ⟨xi, hxi⟩ : ∃ x, x = l[i] := ⟨_, rfl⟩
    obtain ⟨lb, lo, hla, hlcc⟩ := HRO.out.get hil (show l[i]? = some xi by rw [hxi]; exact List.getElem?_eq_getElem hil)
    have lcr : wr.cell? ⟨lb, lo + i, none⟩ = some (.int .i64 xi) := by
     obtain ⟨v', hx'⟩ := HCK.out
     exact (hx'.up.cell (cell_ltk hlcc) (by have := cell_ltk hlcc; omega)).trans hlcc
    obtain ⟨bb, hbb⟩ : ∃ b, b = isBlkK k i := ⟨_, rfl⟩
    have hd : l.drop i = xi :: l.drop (i + 1) := by rw [hxi]; exact List.drop_eq_getElem_cons hil
    have hsq := HSQ.out
    rw [hd] at hsq
    have HCL : Hid ((bb = true ∧ SeqI (fun i => !isBlkK k i) (NdC q nd fs w0) (i + 1) (l.drop (i + 1)) s' r1) ∨ (bb = false ∧ ((∃ s1, NdC q nd fs w0 xi s' (.ok s1) ∧ SeqI (fun i => !isBlkK k i) (NdC q nd fs w0) (i + 1) (l.drop (i + 1)) s1 r1) ∨ (∃ z, r1 = .error z ∧ NdC q nd fs w0 xi s' (.error z))))) := Lib.hid (by
     cases hsq with
     | skip _ _ _ _ _ h h2 => exact .inl ⟨by rw [hbb]; simpa using h, h2⟩
     | ok _ _ _ _ s1 _ h h1 h2 => exact .inr ⟨by rw [hbb]; simpa using h, .inl ⟨s1, h1, h2⟩⟩
     | bad _ _ _ _ z h h1 => exact .inr ⟨by rw [hbb]; simpa using h, .inr ⟨z, rfl, h1⟩⟩)
    subst hla
    have b0 := HLr.out.cells 0 _ rfl
    have b1 := HLr.out.cells 1 _ rfl
    have b2 := HLr.out.cells 2 _ rfl
    have b3 := HLr.out.cells 3 _ rfl
    have b4 := HLr.out.cells 4 _ rfl
    have IC : Hid (Calls Tryz.prog 102 #[.agg #[.int .i64 k, .int .i64 ln, .int .i64 n, .string X, .slice (some ⟨lb, lo, none⟩) m lc], .int .i64 i] wr fun e w' => e = .returned (.bool bb) ∧ Keeps (fun _ => False) wr w') := Lib.hid (by rw [hbb]; exact pblk_any k ln n i X _ m lc wr)
    clear hsq hd hlcc hxi hil hin hin1 HSQ hbb
    go_wp2_with fail
    refine IC.out.mono ?_
    rintro e w4 ⟨rfl, k4⟩
    have HC4 := Lib.hid (HCK.out.keep k4)
    have HL4 := Lib.hid (HLr.out.keeps k4)
    have HF4 := Lib.hid (HFR.out.keeps k4)
    clear IC k4 b0 b1 b2 b3 b4 lcr HCK HLr HFR
    rcases HCL.out with ⟨rfl, h2⟩ | ⟨rfl, ⟨s2, h1, h2⟩ | ⟨z, hz, h1⟩⟩
    ·have H2 := Lib.hid h2
     clear h2 HCL
     go_wp2_with fail
     go_roundg (gk - 1)
     case measure => go_light; have h1 := HIQ.out; have h2 := HIN.out; omega
     case rel => exact ⟨i + 1, R', s', by go_num, by have h1 := HIQ.out; have h2 := HIN.out; go_light; omega, by have h2 := HIN.out; go_light; omega, HC4.out, HL4.out, HF4.out, H2.out⟩
    ·have NC := Lib.hid (h1 _ _ HC4.out)
     rw [← HP.out] at NC
     have H2 := Lib.hid h2
     clear h1 h2 HCL
     go_wp2_with fail
     refine NC.out.mono ?_
     rintro e w5 ⟨R2, s2', hp, hf, rfl, rfl⟩
     have HC5 := Lib.hid hp
     have HL5 := Lib.hid (HL4.out.keep hf)
     have HF5 := Lib.hid (HF4.out.trans hf)
     clear hp hf NC
     go_wp2_with fail
     go_roundg (gk - 1)
     case measure => go_light; have h1 := HIQ.out; have h2 := HIN.out; omega
     case rel => exact ⟨i + 1, R2, s2', by go_num, by have h1 := HIQ.out; have h2 := HIN.out; go_light; omega, by have h2 := HIN.out; go_light; omega, HC5.out, HL5.out, HF5.out, H2.out⟩
    ·have NC := Lib.hid (h1 _ _ HC4.out)
     rw [← HP.out] at NC
     have HR : Hid (r = .error z) := Lib.hid (by
      rcases HQ3.out with ⟨z', e1, e2⟩ | ⟨s2, t, z', e1, _⟩
      ·rw [e1] at hz; rw [e2]; exact hz
      ·rw [e1] at hz; cases hz)
     clear h1 hz HCL
     go_wp2_with fail
     refine NC.out.mono ?_
     rintro e w5 ⟨R2, s2, hp, hf, rfl, hb1, hb2⟩
     have HC5 := Lib.hid hp
     have HF5 := Lib.hid (HF4.out.trans hf)
     have HB := Lib.hid (And.intro hb1 hb2)
     clear hp hf NC hb1 hb2
     go_wp2_with fail
     go_ret
     rw [HR.out]
     exact ⟨R2, s2, HC5.out, HF5.out, rfl, HB.out.1, HB.out.2⟩
   ·obtain rfl : m = i := by omega
    have hI : ¬ (m : Int) < (m : Int) := by omega
    have hdI : decide ((m : Int) < (m : Int)) = false := decide_eq_false hI
    have hr1 : r1 = .ok s' := by
     have h := HSQ.out
     rw [List.drop_of_length_le (by rw [← HM.out]; exact Nat.le_refl _)] at h
     cases h
     rfl
    rcases HQ3.out with ⟨z, e1, _⟩ | ⟨s2, t, z, e1, hTl, hq4⟩
    ·rw [e1] at hr1; cases hr1
    rw [e1] at hr1
    have hr1 := Except.ok.inj hr1
    subst hr1
    have HQ4 := Lib.hid hq4
    have TC := Lib.hid (hTl wr R' ln la lc HCK.out HRO.out)
    rw [← HP.out, ← HM.out, ← HX.out] at TC
    have b0 := HLr.out.cells 0 _ rfl
    have b1 := HLr.out.cells 1 _ rfl
    have b2 := HLr.out.cells 2 _ rfl
    have b3 := HLr.out.cells 3 _ rfl
    have b4 := HLr.out.cells 4 _ rfl
    clear hTl hq4 e1 HQ3 HSQ hin hin1
    go_wp2_with fail
    refine TC.out.mono ?_
    rintro e w4 ⟨rfl, k4⟩
    have HC4 := Lib.hid (HCK.out.keep k4)
    have HL4 := Lib.hid (HLr.out.keeps k4)
    have HF4 := Lib.hid (HFR.out.keeps k4)
    clear TC k4 b0 b1 b2 b3 b4 HCK HLr HFR
    rcases HQ4.out with ⟨hz, hr⟩ | ⟨hz, hlet | ⟨hk, hNL⟩⟩
    ·have hzb : (z == 0) = false := by simpa using hz
     clear HQ4 hz
     have NC := Lib.hid (pfail_any HC4.out (j : Int) z)
     rw [← HP.out] at NC
     have HR := Lib.hid hr
     clear hr
     go_wp2_with fail
     refine NC.out.mono ?_
     rintro e w9 ⟨rfl, hp, hf⟩
     have HC9 := Lib.hid hp
     have HF9 := Lib.hid (HF4.out.trans hf)
     clear hp hf NC
     go_wp2_with fail
     go_ret
     rw [HR.out]
     exact ⟨R', _, HC9.out, HF9.out, rfl, rfl, rfl⟩

    ·subst hz
     obtain ⟨hk, z2, s3, hLt, hq5⟩ := hlet
     subst hk
     have HQ5 := Lib.hid hq5
     have NC := Lib.hid (hLt w4 R' ln la lc HC4.out HRO.out)
     rw [← HP.out, ← HM.out, ← HX.out] at NC
     have b0 := HL4.out.cells 0 _ rfl
     have b1 := HL4.out.cells 1 _ rfl
     have b2 := HL4.out.cells 2 _ rfl
     have b3 := HL4.out.cells 3 _ rfl
     have b4 := HL4.out.cells 4 _ rfl
     clear hLt hq5 HQ4
     go_wp2_with fail
     refine NC.out.mono ?_
     rintro e w5 ⟨rfl, R5, hp, hf⟩
     have HC5 := Lib.hid hp
     have HL5 := Lib.hid (HL4.out.keep hf)
     have HF5 := Lib.hid (HF4.out.trans hf)
     clear hp hf NC b0 b1 b2 b3 b4 HC4 HL4 HF4
     rcases HQ5.out with ⟨hz2, hr⟩ | ⟨hz2, hNL⟩
     ·have hzb : (z2 == 0) = false := by simpa using hz2
      clear HQ5 hz2
      have NC := Lib.hid (pfail_any HC5.out (j : Int) z2)
      rw [← HP.out] at NC
      have HR := Lib.hid hr
      clear hr
      go_wp2_with fail
      refine NC.out.mono ?_
      rintro e w9 ⟨rfl, hp, hf⟩
      have HC9 := Lib.hid hp
      have HF9 := Lib.hid (HF5.out.trans hf)
      clear hp hf NC
      go_wp2_with fail
      go_ret
      rw [HR.out]
      exact ⟨R5, _, HC9.out, HF9.out, rfl, rfl, rfl⟩

     ·subst hz2
      obtain ⟨v5, hx5⟩ := HC5.out
      have c2 := hx5.c2
      have hjt : j < s3.ty.length := by rw [hx5.lT]; exact HJ.out
      have zc := hx5.tT.cell j _ (List.getElem?_eq_getElem hjt)
      have zf := hx5.tT.fz j
      generalize (s3.ty[j]) = u5 at zc
      have hset := HC5.out.setT j t HJ.out
      have hjM : (j : Int) < (q.m : Int) := by have := HJ.out; omega
      have hj0 : (0 : Int) ≤ (j : Int) := by omega
      rw [← HP.out] at c2
      obtain ⟨TT, hTT⟩ : ∃ T, T = q.T := ⟨_, rfl⟩
      obtain ⟨MM, hMM⟩ : ∃ T, T = q.m := ⟨_, rfl⟩
      rw [← hTT, ← hMM] at c2
      rw [← hTT] at zc zf hset
      rw [← hMM] at hjM
      have HC6' := Lib.hid hset
      have HL6' := Lib.hid (HL5.out.keep hset.2)
      have HF6' := Lib.hid (HF5.out.trans hset.2)
      have HNL := Lib.hid hNL
      clear hx5 hset hTT hMM hjt hNL
      go_upto_region 18 with fail
      obtain ⟨w6, hw6⟩ : ∃ w6, w6 = w5.setCell ⟨TT, j, none⟩ (.int .i64 t) := ⟨_, rfl⟩
      rw [← hw6] at HC6' HL6' HF6' ⊢
      clear hw6 c2 zc zf
      have b4 := HL6'.out.cells 4 _ rfl
      go_wp2_with fail
      go_loopg [11, 12, 95] (m + 1) (fun gq s11 s12 s95 wr => ∃ (i : Nat) (R' : Nat → Prop) (s' : CkS), s95 = .int .i64 i ∧ i + gq = m + 1 ∧ i ≤ m ∧ Ck wr q nd fs w0 R' s' ∧ Loc wr R' P5 [.int .i64 10, .int .i64 ln, .int .i64 n, .string X, .slice la m lc] ∧ Fr R w R' wr ∧ SeqI (fun i => isBlkK 10 i) (BlkC q nd fs w0) i (l.drop i) s' r)
      case atStart => exact ⟨0, R5, _, rfl, by omega, by omega, HC6'.out.1, HL6'.out, HF6'.out, HNL.out⟩
      case round =>
       obtain ⟨i, R', s', rfl, hiq, hin1, hck, hlc5, hfr, hseq⟩ := hrel
       have HIQ := Lib.hid hiq
       have HCK := Lib.hid hck
       have HLr := Lib.hid hlc5
       have HFR := Lib.hid hfr
       have HSQ := Lib.hid hseq
       clear hiq hck hfr hseq hlc5 b4
       by_cases hin : i < m
       ·have hI : (i : Int) < (m : Int) := by omega
        have hdI : decide ((i : Int) < (m : Int)) = true := decide_eq_true hI
        have hi0 : (0 : Int) ≤ (i : Int) := by omega
        have wi : IntKind.i64.wrap ((i : Int) + 1) = (i : Int) + 1 := IntWalk.i64_in _ (by omega)
        have HIN := Lib.hid hin
        have hil : i < l.length := by rw [← HM.out]; exact hin
        obtain ⟨xi, hxi⟩ : ∃ x, x = l[i] := ⟨_, rfl⟩
        obtain ⟨lb, lo, hla, hlcc⟩ := HRO.out.get hil (show l[i]? = some xi by rw [hxi]; exact List.getElem?_eq_getElem hil)
        have lcr : wr.cell? ⟨lb, lo + i, none⟩ = some (.int .i64 xi) := by
         obtain ⟨v', hx'⟩ := HCK.out
         exact (hx'.up.cell (cell_ltk hlcc) (by have := cell_ltk hlcc; omega)).trans hlcc
        obtain ⟨bb, hbb⟩ : ∃ b, b = isBlkK 10 i := ⟨_, rfl⟩
        have hd : l.drop i = xi :: l.drop (i + 1) := by rw [hxi]; exact List.drop_eq_getElem_cons hil
        have hsq := HSQ.out
        rw [hd] at hsq
        have HCL : Hid ((bb = false ∧ SeqI (fun i => isBlkK 10 i) (BlkC q nd fs w0) (i + 1) (l.drop (i + 1)) s' r) ∨ (bb = true ∧ ((∃ s1, BlkC q nd fs w0 xi s' (.ok s1) ∧ SeqI (fun i => isBlkK 10 i) (BlkC q nd fs w0) (i + 1) (l.drop (i + 1)) s1 r) ∨ (∃ z, r = .error z ∧ BlkC q nd fs w0 xi s' (.error z))))) := Lib.hid (by
         cases hsq with
         | skip _ _ _ _ _ h h2 => exact .inl ⟨by rw [hbb]; exact h, h2⟩
         | ok _ _ _ _ s1 _ h h1 h2 => exact .inr ⟨by rw [hbb]; exact h, .inl ⟨s1, h1, h2⟩⟩
         | bad _ _ _ _ z h h1 => exact .inr ⟨by rw [hbb]; exact h, .inr ⟨z, rfl, h1⟩⟩)
        subst hla
        have b0 := HLr.out.cells 0 _ rfl
        have b1 := HLr.out.cells 1 _ rfl
        have b2 := HLr.out.cells 2 _ rfl
        have b3 := HLr.out.cells 3 _ rfl
        have b4 := HLr.out.cells 4 _ rfl
        have IC : Hid (Calls Tryz.prog 102 #[.agg #[.int .i64 10, .int .i64 ln, .int .i64 n, .string X, .slice (some ⟨lb, lo, none⟩) m lc], .int .i64 i] wr fun e w' => e = .returned (.bool bb) ∧ Keeps (fun _ => False) wr w') := Lib.hid (by rw [hbb]; exact pblk_any 10 ln n i X _ m lc wr)
        clear hsq hd hlcc hxi hil hin hin1 HSQ hbb
        go_wp2_with fail
        refine IC.out.mono ?_
        rintro e w7 ⟨rfl, k7⟩
        have HC7 := Lib.hid (HCK.out.keep k7)
        have HL7 := Lib.hid (HLr.out.keeps k7)
        have HF7 := Lib.hid (HFR.out.keeps k7)
        clear IC k7 b0 b1 b2 b3 b4 lcr HCK HLr HFR
        rcases HCL.out with ⟨rfl, h2⟩ | ⟨rfl, ⟨s2, h1, h2⟩ | ⟨z, hz, h1⟩⟩
        ·have H2 := Lib.hid h2
         clear h2 HCL
         go_wp2_with fail
         go_roundg (gk - 1)
         case measure => go_light; have h1 := HIQ.out; have h2 := HIN.out; omega
         case rel => exact ⟨i + 1, R', s', by go_num, by have h1 := HIQ.out; have h2 := HIN.out; go_light; omega, by have h2 := HIN.out; go_light; omega, HC7.out, HL7.out, HF7.out, H2.out⟩
        ·have NC := Lib.hid (h1 _ _ HC7.out)
         rw [← HP.out] at NC
         have H2 := Lib.hid h2
         clear h1 h2 HCL
         go_wp2_with fail
         refine NC.out.mono ?_
         rintro e w8 ⟨R2, s2', hp, hf, rfl, rfl⟩
         have HC8 := Lib.hid hp
         have HL8 := Lib.hid (HL7.out.keep hf)
         have HF8 := Lib.hid (HF7.out.trans hf)
         clear hp hf NC
         go_wp2_with fail
         go_roundg (gk - 1)
         case measure => go_light; have h1 := HIQ.out; have h2 := HIN.out; omega
         case rel => exact ⟨i + 1, R2, s2', by go_num, by have h1 := HIQ.out; have h2 := HIN.out; go_light; omega, by have h2 := HIN.out; go_light; omega, HC8.out, HL8.out, HF8.out, H2.out⟩
        ·have NC := Lib.hid (h1 _ _ HC7.out)
         rw [← HP.out] at NC
         have HR := Lib.hid hz
         clear h1 hz HCL
         go_wp2_with fail
         refine NC.out.mono ?_
         rintro e w8 ⟨R2, s2, hp, hf, rfl, hb1, hb2⟩
         have HC8 := Lib.hid hp
         have HF8 := Lib.hid (HF7.out.trans hf)
         have HB := Lib.hid (And.intro hb1 hb2)
         clear hp hf NC hb1 hb2
         go_wp2_with fail
         go_ret
         rw [HR.out]
         exact ⟨R2, s2, HC8.out, HF8.out, rfl, HB.out.1, HB.out.2⟩
       ·obtain rfl : m = i := by omega
        have hI : ¬ (m : Int) < (m : Int) := by omega
        have hdI : decide ((m : Int) < (m : Int)) = false := decide_eq_false hI
        have HR : Hid (r = .ok s') := Lib.hid (by
         have h := HSQ.out
         rw [List.drop_of_length_le (by rw [← HM.out]; exact Nat.le_refl _)] at h
         cases h
         rfl)
        clear hin hin1 HSQ
        go_wp2_with fail
        go_ret
        rw [HR.out]
        exact ⟨R', _, HCK.out, HFR.out, rfl, rfl⟩

    ·subst hz
     have hkb : (k == 10) = false := by simpa using hk
     have b0 := HL4.out.cells 0 _ rfl
     clear HQ4
     obtain ⟨v5, hx5⟩ := HC4.out
     have c2 := hx5.c2
     have hjt : j < s2.ty.length := by rw [hx5.lT]; exact HJ.out
     have zc := hx5.tT.cell j _ (List.getElem?_eq_getElem hjt)
     have zf := hx5.tT.fz j
     generalize (s2.ty[j]) = u5 at zc
     have hset := HC4.out.setT j t HJ.out
     have hjM : (j : Int) < (q.m : Int) := by have := HJ.out; omega
     have hj0 : (0 : Int) ≤ (j : Int) := by omega
     rw [← HP.out] at c2
     obtain ⟨TT, hTT⟩ : ∃ T, T = q.T := ⟨_, rfl⟩
     obtain ⟨MM, hMM⟩ : ∃ T, T = q.m := ⟨_, rfl⟩
     rw [← hTT, ← hMM] at c2
     rw [← hTT] at zc zf hset
     rw [← hMM] at hjM
     have HC6' := Lib.hid hset
     have HL6' := Lib.hid (HL4.out.keep hset.2)
     have HF6' := Lib.hid (HF4.out.trans hset.2)
     have HNL := Lib.hid hNL
     clear hx5 hset hTT hMM hjt hNL
     go_upto_region 18 with fail
     obtain ⟨w6, hw6⟩ : ∃ w6, w6 = w4.setCell ⟨TT, j, none⟩ (.int .i64 t) := ⟨_, rfl⟩
     rw [← hw6] at HC6' HL6' HF6' ⊢
     clear hw6 c2 zc zf
     have b4 := HL6'.out.cells 4 _ rfl
     go_wp2_with fail
     go_loopg [11, 12, 95] (m + 1) (fun gq s11 s12 s95 wr => ∃ (i : Nat) (R' : Nat → Prop) (s' : CkS), s95 = .int .i64 i ∧ i + gq = m + 1 ∧ i ≤ m ∧ Ck wr q nd fs w0 R' s' ∧ Loc wr R' P5 [.int .i64 k, .int .i64 ln, .int .i64 n, .string X, .slice la m lc] ∧ Fr R w R' wr ∧ SeqI (fun i => isBlkK k i) (BlkC q nd fs w0) i (l.drop i) s' r)
     case atStart => exact ⟨0, R', _, rfl, by omega, by omega, HC6'.out.1, HL6'.out, HF6'.out, HNL.out⟩
     case round =>
      obtain ⟨i, R', s', rfl, hiq, hin1, hck, hlc5, hfr, hseq⟩ := hrel
      have HIQ := Lib.hid hiq
      have HCK := Lib.hid hck
      have HLr := Lib.hid hlc5
      have HFR := Lib.hid hfr
      have HSQ := Lib.hid hseq
      clear hiq hck hfr hseq hlc5 b4
      by_cases hin : i < m
      ·have hI : (i : Int) < (m : Int) := by omega
       have hdI : decide ((i : Int) < (m : Int)) = true := decide_eq_true hI
       have hi0 : (0 : Int) ≤ (i : Int) := by omega
       have wi : IntKind.i64.wrap ((i : Int) + 1) = (i : Int) + 1 := IntWalk.i64_in _ (by omega)
       have HIN := Lib.hid hin
       have hil : i < l.length := by rw [← HM.out]; exact hin
       obtain ⟨xi, hxi⟩ : ∃ x, x = l[i] := ⟨_, rfl⟩
       obtain ⟨lb, lo, hla, hlcc⟩ := HRO.out.get hil (show l[i]? = some xi by rw [hxi]; exact List.getElem?_eq_getElem hil)
       have lcr : wr.cell? ⟨lb, lo + i, none⟩ = some (.int .i64 xi) := by
        obtain ⟨v', hx'⟩ := HCK.out
        exact (hx'.up.cell (cell_ltk hlcc) (by have := cell_ltk hlcc; omega)).trans hlcc
       obtain ⟨bb, hbb⟩ : ∃ b, b = isBlkK k i := ⟨_, rfl⟩
       have hd : l.drop i = xi :: l.drop (i + 1) := by rw [hxi]; exact List.drop_eq_getElem_cons hil
       have hsq := HSQ.out
       rw [hd] at hsq
       have HCL : Hid ((bb = false ∧ SeqI (fun i => isBlkK k i) (BlkC q nd fs w0) (i + 1) (l.drop (i + 1)) s' r) ∨ (bb = true ∧ ((∃ s1, BlkC q nd fs w0 xi s' (.ok s1) ∧ SeqI (fun i => isBlkK k i) (BlkC q nd fs w0) (i + 1) (l.drop (i + 1)) s1 r) ∨ (∃ z, r = .error z ∧ BlkC q nd fs w0 xi s' (.error z))))) := Lib.hid (by
        cases hsq with
        | skip _ _ _ _ _ h h2 => exact .inl ⟨by rw [hbb]; exact h, h2⟩
        | ok _ _ _ _ s1 _ h h1 h2 => exact .inr ⟨by rw [hbb]; exact h, .inl ⟨s1, h1, h2⟩⟩
        | bad _ _ _ _ z h h1 => exact .inr ⟨by rw [hbb]; exact h, .inr ⟨z, rfl, h1⟩⟩)
       subst hla
       have b0 := HLr.out.cells 0 _ rfl
       have b1 := HLr.out.cells 1 _ rfl
       have b2 := HLr.out.cells 2 _ rfl
       have b3 := HLr.out.cells 3 _ rfl
       have b4 := HLr.out.cells 4 _ rfl
       have IC : Hid (Calls Tryz.prog 102 #[.agg #[.int .i64 k, .int .i64 ln, .int .i64 n, .string X, .slice (some ⟨lb, lo, none⟩) m lc], .int .i64 i] wr fun e w' => e = .returned (.bool bb) ∧ Keeps (fun _ => False) wr w') := Lib.hid (by rw [hbb]; exact pblk_any k ln n i X _ m lc wr)
       clear hsq hd hlcc hxi hil hin hin1 HSQ hbb
       go_wp2_with fail
       refine IC.out.mono ?_
       rintro e w7 ⟨rfl, k7⟩
       have HC7 := Lib.hid (HCK.out.keep k7)
       have HL7 := Lib.hid (HLr.out.keeps k7)
       have HF7 := Lib.hid (HFR.out.keeps k7)
       clear IC k7 b0 b1 b2 b3 b4 lcr HCK HLr HFR
       rcases HCL.out with ⟨rfl, h2⟩ | ⟨rfl, ⟨s2, h1, h2⟩ | ⟨z, hz, h1⟩⟩
       ·have H2 := Lib.hid h2
        clear h2 HCL
        go_wp2_with fail
        go_roundg (gk - 1)
        case measure => go_light; have h1 := HIQ.out; have h2 := HIN.out; omega
        case rel => exact ⟨i + 1, R', s', by go_num, by have h1 := HIQ.out; have h2 := HIN.out; go_light; omega, by have h2 := HIN.out; go_light; omega, HC7.out, HL7.out, HF7.out, H2.out⟩
       ·have NC := Lib.hid (h1 _ _ HC7.out)
        rw [← HP.out] at NC
        have H2 := Lib.hid h2
        clear h1 h2 HCL
        go_wp2_with fail
        refine NC.out.mono ?_
        rintro e w8 ⟨R2, s2', hp, hf, rfl, rfl⟩
        have HC8 := Lib.hid hp
        have HL8 := Lib.hid (HL7.out.keep hf)
        have HF8 := Lib.hid (HF7.out.trans hf)
        clear hp hf NC
        go_wp2_with fail
        go_roundg (gk - 1)
        case measure => go_light; have h1 := HIQ.out; have h2 := HIN.out; omega
        case rel => exact ⟨i + 1, R2, s2', by go_num, by have h1 := HIQ.out; have h2 := HIN.out; go_light; omega, by have h2 := HIN.out; go_light; omega, HC8.out, HL8.out, HF8.out, H2.out⟩
       ·have NC := Lib.hid (h1 _ _ HC7.out)
        rw [← HP.out] at NC
        have HR := Lib.hid hz
        clear h1 hz HCL
        go_wp2_with fail
        refine NC.out.mono ?_
        rintro e w8 ⟨R2, s2, hp, hf, rfl, hb1, hb2⟩
        have HC8 := Lib.hid hp
        have HF8 := Lib.hid (HF7.out.trans hf)
        have HB := Lib.hid (And.intro hb1 hb2)
        clear hp hf NC hb1 hb2
        go_wp2_with fail
        go_ret
        rw [HR.out]
        exact ⟨R2, s2, HC8.out, HF8.out, rfl, HB.out.1, HB.out.2⟩
      ·obtain rfl : m = i := by omega
       have hI : ¬ (m : Int) < (m : Int) := by omega
       have hdI : decide ((m : Int) < (m : Int)) = false := decide_eq_false hI
       have HR : Hid (r = .ok s') := Lib.hid (by
        have h := HSQ.out
        rw [List.drop_of_length_le (by rw [← HM.out]; exact Nat.le_refl _)] at h
        cases h
        rfl)
       clear hin hin1 HSQ
       go_wp2_with fail
       go_ret
       rw [HR.out]
       exact ⟨R', _, HCK.out, HFR.out, rfl, rfl⟩
end Go.Proofs.YtbhpnioggpgbhaaGreatDoor
