/-
  Layer 2: the document's reader: must, name, line, word, calls, down, Type, typed. Written by an AI agent.
  Layer 2: the document's reader: put. Written by an AI agent.
-/
import Derived.Lib.Bytealg
import Derived.Test.YtgelggdgbmldiaaDoorChecked
import Derived.Laws.OwnMore
import Derived.Laws.AppendOwnNone
import Derived.OwnWalk
import Derived.Lib.AppendZerosOnto
import Derived.Below
import Derived.Stop.Walk2
import Derived.WalkKit
import Derived.WalkLawsBesides
import Derived.WalkSpells
import Derived.Outline
import Derived.BigQuiet
import Derived.Deep.CutBlock
import Derived.Deep.CutRange
import Derived.Deep.DeepCutAuto
import Derived.Deep.RegionHeld3
import Derived.Deep.RegionLaw
import Derived.Deep.RegionWith
import Derived.StillTailTactics
import Derived.RegionTactic
import Derived.Laws.StructEq
import Derived.Lib.Hide
import Derived.Shelf.Abstract
import Derived.Shelf.Lay
import Derived.Ground.NamesProg
import Derived.Shelf.Strings.Prefix
import Derived.Shelf.Small.Strs
import Derived.Shelf.Strings.Count
import Derived.Shelf.Strconv.ErrVarParseInt
import Derived.WalkMore
import Derived.Scope
import Derived.Shelf.Slices.Turned
import Derived.Lib.SlicesS
import Derived.Deep.RegionHeld
import Derived.Test.YtgelggdgbmldiaaDoorMcaa
import Derived.Test.YtgelggdgbmldiaaDoorMcac
import Derived.Test.YtgelggdgbmldiaaDoorMcad
import Derived.Test.YtgelggdgbmldiaaDoorMcag
import Derived.Test.YtgelggdgbmldiaaDoorMcas
import Derived.Test.YtgelggdgbmldiaaDoorMcat
namespace Go.Proofs.YtgelggdgbmldiaaDoor
open Go Go.RowKit Go.Shelf
set_option linter.unusedVariables false
set_option linter.unusedSimpArgs false
/-- One token on. -/
theorem Red.stepAt {P : Nat} {src : ByteArray} {T : List Tok} {R : Nat → Prop} {s : PS} {w : World} (h : Red w P src T R s) (hi : s.i + 1 < T.length) : IntKind.i64.wrap ((s.i : Int) + 1) = (s.i : Int) + 1 ∧ w.cell? ⟨P, 2, none⟩ = some (.int .i64 (s.i : Int)) ∧ w.frozen? ⟨P, 2, none⟩ = false ∧ Red (w.setCell ⟨P, 2, none⟩ (.int .i64 ((s.i : Int) + 1))) P src T R (stepR s) ∧ Fr R w R (w.setCell ⟨P, 2, none⟩ (.int .i64 ((s.i : Int) + 1))) := by
  have hle := h.ok.le
  have h1 := h.setI (s.i + 1) hi
  rw [show ((s.i + 1 : Nat) : Int) = (s.i : Int) + 1 by omega] at h1
  exact ⟨IntWalk.i64_in _ (by omega), h.see.c2, h.see.fz 2, h1.1, h1.2⟩
theorem Red.next {P : Nat} {src : ByteArray} {T : List Tok} {R : Nat → Prop} {s : PS} {w : World} (h : Red w P src T R s) (hk : (tokA T s).k ≠ 0) : s.i + 1 < T.length := by
  have := h.more hk
  omega
theorem kindR_k {T : List Tok} {k : Nat} {s : PS} (h : kindR T k s = true) (hk : k ≠ 0) : (tokA T s).k ≠ 0 := by
  unfold kindR at h
  have := ((Bool.and_eq_true _ _).mp h).2
  have : (tokA T s).k = k := by simpa using this
  omega
theorem isR_k {T : List Tok} {x : List UInt8} {s : PS} (h : isR T x s = true) : (tokA T s).k ≠ 0 := by
  intro h0
  simp [isR, h0] at h
set_option maxRecDepth 100000 in
set_option maxHeartbeats 8000000 in
theorem must_any {P : Nat} {src : ByteArray} {T : List Tok} {R : Nat → Prop} {s : PS} {w : World} (h : Red w P src T R s) (x : ByteArray) : Calls Tryd.prog 59 #[.pointer (some ⟨P, 0, none⟩), .string x] w (PostR P src T R w (.tuple #[]) (mustR T x.data.toList s)) := by
  have H := Lib.hid h
  have IC := Lib.hid (ris_any h x)
  by_cases hb : isR T x.data.toList s = true
  · have hE : mustR T x.data.toList s = stepR s := by unfold mustR; rw [if_pos hb]
    have hi := h.next (isR_k hb)
    rw [hE]
    rw [hb] at IC
    clear hE hb h
    go_enter Tryd.func59, Tryd.ntmps59
    go_wp2_with fail
    refine IC.out.mono ?_
    rintro e w1 ⟨rfl, k1⟩
    obtain ⟨e1, c2, f2, hp, hf⟩ := (H.out.keep k1).stepAt hi
    have HF : Hid (PostR P src T R w (.tuple #[]) (stepR s) (.returned (.tuple #[])) (w1.setCell ⟨P, 2, none⟩ (.int .i64 ((s.i : Int) + 1)))) := Lib.hid ⟨rfl, R, hp, ((Fr.refl R w).keeps k1).trans hf⟩
    generalize (s.i : Int) = i at *
    clear hp hf IC
    go_wp2_with fail
    exact bodyPost_end (v := .tuple #[]) (by simp [results, Tryd.results59, go_sem]) rfl HF.out
  · have hE : mustR T x.data.toList s = failR T 20 s := by unfold mustR; rw [if_neg hb]
    have hb : isR T x.data.toList s = false := by simpa using hb
    rw [hE]
    rw [hb] at IC
    clear hE hb h
    go_enter Tryd.func59, Tryd.ntmps59
    go_wp2_with fail
    refine IC.out.mono ?_
    rintro e w1 ⟨rfl, k1⟩
    have NX := Lib.hid (fails_any (H.out.keep k1) 20)
    clear IC
    go_wp2_with fail
    refine NX.out.mono ?_
    rintro e w2 ⟨rfl, R', hp, hf⟩
    have HF : Hid (PostR P src T R w (.tuple #[]) (failR T 20 s) (.returned (.tuple #[])) w2) := Lib.hid ⟨rfl, R', hp, ((Fr.refl R w).keeps k1).trans hf⟩
    clear hp hf NX
    go_wp2_with fail
    exact bodyPost_end (v := .tuple #[]) (by simp [results, Tryd.results59, go_sem]) rfl HF.out
set_option maxRecDepth 100000 in
set_option maxHeartbeats 8000000 in
theorem rname_any {P : Nat} {src : ByteArray} {T : List Tok} {R : Nat → Prop} {s : PS} {w : World} (h : Red w P src T R s) : Calls Tryd.prog 60 #[.pointer (some ⟨P, 0, none⟩)] w (PostR P src T R w (.string (ofL (wnameX T s))) (wnameR T s)) := by
  have H := Lib.hid h
  have IC := Lib.hid (rkind_any h 3)
  by_cases hb : kindR T 3 s = true
  · have hE : wnameR T s = stepR s := by unfold wnameR; rw [if_pos hb]
    have hX : wnameX T s = (T.getD s.i default).x := by unfold wnameX; rw [if_pos hb]; rfl
    have hi := h.next (kindR_k hb (by decide))
    obtain ⟨tx, htx⟩ : ∃ tx, tx = ofL (T.getD s.i default).x := ⟨_, rfl⟩
    rw [hE, hX, ← htx]
    rw [hb] at IC
    clear hE hb h hX
    go_enter Tryd.func60, Tryd.ntmps60
    go_wp2_with fail
    refine IC.out.mono ?_
    rintro e w1 ⟨rfl, k1⟩
    obtain ⟨e1, c2, f2, hp, hf⟩ := (H.out.keep k1).stepAt hi
    have HF : Hid (∀ w3, Keeps (fun _ => False) (w1.setCell ⟨P, 2, none⟩ (.int .i64 ((s.i : Int) + 1))) w3 → PostR P src T R w (.string tx) (stepR s) (.returned (.string tx)) w3) := Lib.hid fun w3 k3 => ⟨rfl, R, hp.keep k3, (((Fr.refl R w).keeps k1).trans hf).keeps k3⟩
    have HT : Hid (∀ w3, Keeps (fun _ => False) (w1.setCell ⟨P, 2, none⟩ (.int .i64 ((s.i : Int) + 1))) w3 → w3.cell? ⟨P, 2, none⟩ = some (.int .i64 ((s.i : Int) + 1)) ∧ ∃ b off cT, b ≠ P ∧ w3.cell? ⟨P, 1, none⟩ = some (.slice (some ⟨b, off, none⟩) T.length cT) ∧ w3.cell? ⟨b, off + s.i * 3 + 1, none⟩ = some (.string tx)) := Lib.hid fun w3 k3 => by
      have h3 := hp.keep k3
      obtain ⟨b, off, cT, hb, c1, t0, t1, t2⟩ := h3.tokAt s.i (by omega)
      have c2 := h3.see.c2
      rw [show (((stepR s).i : Nat) : Int) = (s.i : Int) + 1 by show ((s.i + 1 : Nat) : Int) = _; omega] at c2
      exact ⟨c2, b, off, cT, hb, c1, by rw [htx]; exact t1⟩
    have hle := H.out.ok.le
    have w0 : IntKind.i64.wrap ((s.i : Int) + 1 - 1) = (s.i : Int) := by rw [show (s.i : Int) + 1 - 1 = (s.i : Int) by omega]; exact IntWalk.i64_in _ (by omega)
    obtain ⟨i, hI⟩ : ∃ i, i = s.i := ⟨_, rfl⟩
    obtain ⟨n, hn⟩ : ∃ n, n = T.length := ⟨_, rfl⟩
    rw [← hI] at e1 c2 HF HT w0 hi
    rw [← hn] at HT hi
    have h0 : (0 : Int) ≤ (i : Int) := by omega
    have h1 : (i : Int) < (n : Int) := by omega
    clear hp hf IC H hI hn hle k1 htx
    go_upto_region 6 with fail
    generalize w1.setCell ⟨P, 2, none⟩ (.int .i64 ((i : Int) + 1)) = w2 at *
    clear c2 f2
    obtain ⟨c2, b, off, cT, hb, c1, t1⟩ := HT.out w2 (Keeps.refl _ _)
    clear e1
    simp only [show (i : Int) + 1 - 1 = (i : Int) by omega] at w0
    go_quiet (fail)
    have kd := drew_keeps w2 nq
    generalize w2.drewN nq = w3 at *
    clear c1 c2 t1
    go_wp2_with fail
    go_ret
    exact HF.out w3 kd
  · have hE : wnameR T s = failR T 20 s := by unfold wnameR; rw [if_neg hb]
    have hX : wnameX T s = [] := by unfold wnameX; rw [if_neg hb]
    have hb : kindR T 3 s = false := by simpa using hb
    rw [hE, hX]
    rw [hb] at IC
    clear hE hb h hX
    go_enter Tryd.func60, Tryd.ntmps60
    go_wp2_with fail
    refine IC.out.mono ?_
    rintro e w1 ⟨rfl, k1⟩
    have NX := Lib.hid (fails_any (H.out.keep k1) 20)
    clear IC
    go_wp2_with fail
    refine NX.out.mono ?_
    rintro e w2 ⟨rfl, R', hp, hf⟩
    have HF : Hid (PostR P src T R w (.string (ofL [])) (failR T 20 s) (.returned (.string (ofL []))) w2) := Lib.hid ⟨rfl, R', hp, ((Fr.refl R w).keeps k1).trans hf⟩
    clear hp hf NX
    go_wp2_with fail
    go_ret
    exact HF.out
set_option maxRecDepth 100000 in
set_option maxHeartbeats 8000000 in
theorem rline_at {P : Nat} {src : ByteArray} {T : List Tok} {R : Nat → Prop} {s : PS} {w : World} (hsz : src.size ≤ 1000) (h : Red w P src T R s) : Calls Tryd.prog 58 #[.pointer (some ⟨P, 0, none⟩)] w fun e w' => e = .returned (.int .i64 (lineS src.data.toList T s)) ∧ Keeps (fun _ => False) w w' := by
  have H := Lib.hid h
  obtain ⟨b, off, cT, hbP, c1, hc⟩ := h.toks
  have sw := h.see
  have hi := h.hi
  have hle := h.ok.le
  obtain ⟨t0, t1, t2⟩ := hc s.i hi
  have hb := cell_ltk t0
  have hP := h.lo
  have c2 := sw.c2
  have c0 := sw.c0
  obtain ⟨i, hI⟩ : ∃ i, i = s.i := ⟨_, rfl⟩
  obtain ⟨n, hn⟩ : ∃ n, n = T.length := ⟨_, rfl⟩
  have LC : Hid (∀ w1, Calls Tryd.prog 92 #[.string src, .int .i64 (((T.getD s.i default).p : Nat) : Int)] w1 fun e w' => e = .returned (.int .i64 (lineS src.data.toList T s)) ∧ w' = w1) := Lib.hid fun w1 => rline_any src hsz _ w1
  generalize lineS src.data.toList T s = ln at LC ⊢
  rw [← hI] at c2 hi t0 t1 t2 LC
  rw [← hn] at c1 hi hle
  generalize (((T.getD i default).p : Nat) : Int) = tp at t2 LC
  have h0 : (0 : Int) ≤ (i : Int) := by omega
  have h1 : (i : Int) < (n : Int) := by omega
  clear hI hn hc H h sw t0 t1
  go_enter Tryd.func58, Tryd.ntmps58
  go_wp2_with fail
  go_quiet ((go_at_call 92; exact Calls.quiet_of_same (LC.out _)))
  have kd := drew_keeps w nq
  generalize w.drewN nq = w1 at *
  clear c1 c2 c0 t2
  go_wp2_with fail
  go_ret
  exact ⟨rfl, kd⟩
set_option maxRecDepth 100000 in
set_option maxHeartbeats 8000000 in
theorem rwd_any {P : Nat} {src : ByteArray} {T : List Tok} {R : Nat → Prop} {s : PS} {w : World} (h : Red w P src T R s) : Calls Tryd.prog 94 #[.pointer (some ⟨P, 0, none⟩)] w fun e w' => e = .returned (.string (ofL (wordR T s))) ∧ Keeps (fun _ => False) w w' := by
  have IC := Lib.hid (rkind_any h 4)
  by_cases hkk : kindR T 4 s = true
  · have H := Lib.hid h
    obtain ⟨b, off, cT, hbP, c1, hc⟩ := h.toks
    have sw := h.see
    have hi := h.hi
    have hle := h.ok.le
    obtain ⟨t0, t1, t2⟩ := hc s.i hi
    have hb := cell_ltk t0
    have hP := h.lo
    have c2 := sw.c2
    have hX : wordR T s = (T.getD s.i default).x := by unfold wordR; rw [if_pos hkk]; rfl
    rw [hX]
    rw [hkk] at IC
    clear hX hkk
    obtain ⟨i, hI⟩ : ∃ i, i = s.i := ⟨_, rfl⟩
    obtain ⟨n, hn⟩ : ∃ n, n = T.length := ⟨_, rfl⟩
    rw [← hI] at c2 hi t0 t1 t2 ⊢
    rw [← hn] at c1 hi hle
    generalize ofL (T.getD i default).x = tx at t1 ⊢
    have h0 : (0 : Int) ≤ (i : Int) := by omega
    have h1 : (i : Int) < (n : Int) := by omega
    clear hI hn hc H h sw t0 t2
    go_enter Tryd.func94, Tryd.ntmps94
    go_wp2_with fail
    refine IC.out.mono ?_
    rintro e w1 ⟨rfl, k1⟩
    have c1 := (k1.cell hP (fun h => h)).trans c1
    have c2 := (k1.cell hP (fun h => h)).trans c2
    have t1 := (k1.cell hb (fun h => h)).trans t1
    have K1 := Lib.hid k1
    clear IC k1 hP hb
    go_upto_region 3 with fail
    go_quiet (fail)
    have kd := K1.out.trans (drew_keeps w1 nq) (fun _ _ h => h)
    generalize w1.drewN nq = w2 at *
    clear c1 c2 t1
    go_wp2_with fail
    go_ret
    exact ⟨rfl, kd⟩
  · have hX : wordR T s = [] := by unfold wordR; rw [if_neg hkk]
    have hb : kindR T 4 s = false := by simpa using hkk
    rw [hX]
    rw [hb] at IC
    clear hX hb h hkk
    go_enter Tryd.func94, Tryd.ntmps94
    go_wp2_with fail
    refine IC.out.mono ?_
    rintro e w1 ⟨rfl, k1⟩
    clear IC
    go_wp2_with fail
    go_ret
    exact ⟨rfl, k1⟩
set_option maxRecDepth 100000 in
set_option maxHeartbeats 8000000 in
theorem rcalls_any {P : Nat} {src : ByteArray} {T : List Tok} {R : Nat → Prop} {s : PS} {w : World} (h : Red w P src T R s) : Calls Tryd.prog 132 #[.pointer (some ⟨P, 0, none⟩)] w fun e w' => e = .returned (.bool (callsR T s)) ∧ Keeps (fun _ => False) w w' := by
  have IC := Lib.hid (rkind_any h 3)
  by_cases hb : kindR T 3 s = true
  · have H := Lib.hid h
    have hi := h.next (kindR_k hb (by decide))
    obtain ⟨b, off, cT, hbP, c1, t0, t1, t2⟩ := h.tokAt (s.i + 1) hi
    have c2 := h.see.c2
    have hbl := cell_ltk t0
    have hP := h.lo
    have hle := h.ok.le
    have hX : callsR T s = (decide (((T.getD (s.i + 1) default).k : Int) = 5) && decide (ofL (T.getD (s.i + 1) default).x = { data := #[40] })) := by
      unfold callsR
      rw [hb, Bool.true_and, list_beq, ofL_list]
      congr 1
      exact decide_eq_decide.2 (by omega)
    rw [hX]
    rw [hb] at IC
    have w1' : IntKind.i64.wrap ((s.i : Int) + 1) = ((s.i + 1 : Nat) : Int) := by rw [show ((s.i + 1 : Nat) : Int) = (s.i : Int) + 1 by omega]; exact IntWalk.i64_in _ (by omega)
    have h0 : (0 : Int) ≤ ((s.i + 1 : Nat) : Int) := by omega
    have h1 : ((s.i + 1 : Nat) : Int) < (T.length : Int) := by omega
    generalize hj : s.i + 1 = j at *
    generalize (s.i : Int) = i at *
    generalize ofL (T.getD j default).x = tx at t1 ⊢
    generalize ((T.getD j default).k : Int) = tk at t0 ⊢
    generalize T.length = n at *
    have hq : (tx.toList == [40]) = decide (tx = { data := #[40] }) := by rw [word_beq, list_beq]
    clear hX hb t2 H h hj hle
    have walk : ∀ r : Bool, ((tk = 5 ∧ r = (tx.toList == [40])) ∨ (tk ≠ 5 ∧ r = false)) → Calls Tryd.prog 132 #[.pointer (some ⟨P, 0, none⟩)] w fun e w' => e = .returned (.bool r) ∧ Keeps (fun _ => False) w w' := by
      intro r hr
      have HRR := Lib.hid hr
      clear hr hq
      go_enter Tryd.func132, Tryd.ntmps132
      go_wp2_with fail
      refine IC.out.mono ?_
      rintro e w1 ⟨rfl, k1⟩
      have c1 := (k1.cell hP (fun h => h)).trans c1
      have c2 := (k1.cell hP (fun h => h)).trans c2
      have t0 := (k1.cell hbl (fun h => h)).trans t0
      have t1 := (k1.cell (cell_ltk t1) (fun h => h)).trans t1
      have K1 := Lib.hid k1
      clear IC k1 hP hbl
      rcases HRR.out with ⟨rfl, rfl⟩ | ⟨h5, rfl⟩
      · go_upto_region 2 with fail
        go_quiet (fail)
        have kd := K1.out.trans (drew_keeps w1 nq) (fun _ _ h => h)
        generalize w1.drewN nq = w2 at *
        clear c1 c2 t0 t1
        go_wp2_with fail
        go_ret
        exact ⟨rfl, kd⟩
      · have d5 := (show (tk == 5) = false by simpa using h5)
        go_upto_region 2 with fail
        go_quiet (fail)
        have kd := K1.out.trans (drew_keeps w1 nq) (fun _ _ h => h)
        generalize w1.drewN nq = w2 at *
        clear c1 c2 t0 t1
        go_wp2_with fail
        go_ret
        exact ⟨rfl, kd⟩
    by_cases h5 : tk = 5
    · rw [decide_eq_true h5, Bool.true_and]
      exact walk _ (.inl ⟨h5, hq.symm⟩)
    · rw [decide_eq_false h5, Bool.false_and]
      exact walk _ (.inr ⟨h5, rfl⟩)
  · have hX : callsR T s = false := by
      have hb : kindR T 3 s = false := by simpa using hb
      unfold callsR; rw [hb, Bool.false_and]
    have hb : kindR T 3 s = false := by simpa using hb
    rw [hX]
    rw [hb] at IC
    clear hX hb h
    go_enter Tryd.func132, Tryd.ntmps132
    go_wp2_with fail
    refine IC.out.mono ?_
    rintro e w1 ⟨rfl, k1⟩
    clear IC
    go_upto_region 2 with fail
    go_quiet (fail)
    have kd := k1.trans (drew_keeps w1 nq) (fun _ _ h => h)
    generalize w1.drewN nq = w2 at *
    clear k1
    go_wp2_with fail
    go_ret
    exact ⟨rfl, kd⟩
end Go.Proofs.YtgelggdgbmldiaaDoor

namespace Go.Proofs.YtgelggdgbmldiaaDoor
open Go Go.RowKit Go.Shelf
set_option linter.unusedVariables false
set_option linter.unusedSimpArgs false
/-- What a node more makes of a reader in memory. -/
theorem RedX.add {w : World} {P : Nat} {src : ByteArray} {T : List Tok} {A : Option Addr} {cT : Nat} {R : Nat → Prop} {s : PS} {v : Value} {L : List NM} (h : RedX w P src T A cT R s v L) {w1 w5 : World} (k1 : Keeps (fun _ => False) w w1) (x : NM) (hx : RdI w1 x.a x.d.l) (X : Nat)
    (hX : 0 < x.d.l.length → ∃ off, x.a = some ⟨X, off, none⟩) (hR : ¬ R X) (hPX : P < X) {v5 : Value} (ho : w5.ownsRow 0 33 5 v5 (L.length + 1) (flatN L ++ x.cells)) (hg : w1.grownBy w5 v.ownBlock) (hb : v5.ownBlock = v.ownBlock ∨ v5.ownBlock = some w1.heap.size) :
    (w5.cell? ⟨P, 3, none⟩ = some v ∧ w5.frozen? ⟨P, 3, none⟩ = false) ∧
    ((w5.setCell ⟨P, 3, none⟩ v5).cell? ⟨P, 3, none⟩ = some v5 ∧ ∃ R', Red (w5.setCell ⟨P, 3, none⟩ v5) P src T R' { s with nd := s.nd ++ [x.d] } ∧ Keeps R w (w5.setCell ⟨P, 3, none⟩ v5) ∧ ∀ b, b < w.heap.size → R' b → R b ∨ b = X) := by
  have hP := h.lo
  have hs1 := k1.size
  -- the blocks
  have b5 : ∀ g, v5.ownBlock = some g → g = w1.heap.size ∨ v.ownBlock = some g := fun g hg => by
    rcases hb with e | e
    · exact .inr (e ▸ hg)
    · rw [e] at hg; cases hg; exact .inl rfl
  have keep5 : ∀ b, b < w1.heap.size → (∀ g, v.ownBlock = some g → b ≠ g) → w5.heap[b]? = w1.heap[b]? := fun b hb hn => hg.block b hb (fun e => hn b e.symm rfl)
  have cP : ∀ j, w5.cell? ⟨P, j, none⟩ = w.cell? ⟨P, j, none⟩ := fun j => (World.cell?_of_block (w := w1) (keep5 P (by omega) (fun g hg => fun e => (h.vb g hg).2 e.symm))).trans (k1.cell hP (fun h => h))
  have fP : ∀ j, w5.frozen? ⟨P, j, none⟩ = w.frozen? ⟨P, j, none⟩ := fun j => (World.frozen?_of_block (w := w1) (keep5 P (by omega) (fun g hg => fun e => (h.vb g hg).2 e.symm))).trans (k1.frozen hP (fun h => h))
  have c5 := (cP 3).trans h.c3
  have c5' : (w5.setCell ⟨P, 3, none⟩ v5).cell? ⟨P, 3, none⟩ = some v5 := cell_same w5 P 3 _ _ c5
  refine ⟨⟨c5, (fP 3).trans (h.fz 3)⟩, c5', ?_⟩
  have oth : ∀ j, 3 ≠ j → (w5.setCell ⟨P, 3, none⟩ v5).cell? ⟨P, j, none⟩ = w.cell? ⟨P, j, none⟩ := fun j e => (cell_other w5 3 j _ (.inl e)).trans (cP j)
  have kw6 : Keeps (fun b => b = P) w5 (w5.setCell ⟨P, 3, none⟩ v5) := (Keeps.refl (fun b => b = P) w5).setCell (p := ⟨P, 3, none⟩) (fun _ => rfl) _
  have k15 : Keeps (fun b => v.ownBlock = some b) w1 w5 := ⟨hg.os, hg.tape, hg.output, hg.size, fun b hb hn => hg.block b hb (fun e => hn e.symm)⟩
  have kall : Keeps (fun b => b = P ∨ v.ownBlock = some b) w (w5.setCell ⟨P, 3, none⟩ v5) :=
    ((k1.mono (T := fun b => b = P ∨ v.ownBlock = some b) (fun _ _ h => h.elim)).trans k15 (fun _ _ e => .inr e)).trans kw6 (fun _ _ e => .inl e)
  have sz5 : w1.heap.size ≤ w5.heap.size := hg.size
  have sz6 : (w5.setCell ⟨P, 3, none⟩ v5).heap.size = w5.heap.size := by simp
  have rdx : RdI w5 x.a x.d.l := hx.keep k15 (fun h0 b off e hv => by
    obtain ⟨off', e'⟩ := hX h0
    rw [e] at e'
    cases e'
    exact hR (h.vb X hv).1)
  refine ⟨fun b => R b ∨ (b = X ∧ 0 < x.d.l.length) ∨ v5.ownBlock = some b, ⟨A, cT, v5, L ++ [x], ?_⟩, kall.mono (fun b _ e => e.elim (fun e => e ▸ h.rp) (fun e => (h.vb b e).1)), fun b hb hr => ?_⟩
  · have lift : ∀ b, R b → b < w5.heap.size := fun b hb => Nat.lt_of_lt_of_le (h.lt b hb) (by omega)
    have nP : ∀ g, v5.ownBlock = some g → g ≠ P := fun g hg => by
      rcases b5 g hg with e | e
      · omega
      · exact (h.vb g e).2
    have nR : ∀ b, R b → b ≠ P → (∀ g, v.ownBlock = some g → b ≠ g) → ∀ g, v5.ownBlock = some g → b ≠ g := fun b hb _ hn g hg => by
      rcases b5 g hg with e | e
      · have := h.lt b hb; omega
      · exact hn g e
    have ltA : ∀ b, (R b ∨ (b = X ∧ 0 < x.d.l.length) ∨ v5.ownBlock = some b) → b < (w5.setCell ⟨P, 3, none⟩ v5).heap.size := fun b hb => by
      rw [sz6]
      rcases hb with hb | ⟨hb, h0⟩ | hb
      · exact lift b hb
      · obtain ⟨off, e⟩ := hX h0
        rw [hb]
        exact rdx.lt h0 e
      · exact (ho.lt b hb).2
    have ownA : (w5.setCell ⟨P, 3, none⟩ v5).ownsRow 0 33 5 v5 (L ++ [x]).length (flatN (L ++ [x])) := by
      rw [flatN_append, flatN_one, List.length_append]
      exact ownsRow_keep ho (fun g hg => kw6.block g (ho.lt g hg).2 (nP g hg))
    have lsA : ∀ y ∈ L ++ [x], RdI (w5.setCell ⟨P, 3, none⟩ v5) y.a y.d.l ∧ (0 < y.d.l.length → ∀ b off, y.a = some ⟨b, off, none⟩ → (R b ∨ (b = X ∧ 0 < x.d.l.length) ∨ v5.ownBlock = some b) ∧ b ≠ P ∧ ∀ g, v5.ownBlock = some g → b ≠ g) := fun y hy => by
      rcases List.mem_append.1 hy with hy | hy
      · exact ⟨(h.ls y hy).1.keep kall (fun h0 b off e hc => hc.elim ((h.ls y hy).2 h0 b off e).2.1 (fun hv => ((h.ls y hy).2 h0 b off e).2.2 b hv rfl)), fun h0 b off e => ⟨.inl ((h.ls y hy).2 h0 b off e).1, ((h.ls y hy).2 h0 b off e).2.1, nR b ((h.ls y hy).2 h0 b off e).1 ((h.ls y hy).2 h0 b off e).2.1 ((h.ls y hy).2 h0 b off e).2.2⟩⟩
      · rw [List.mem_singleton.1 hy]
        refine ⟨rdx.keep kw6 (fun h0 b off e hc => ?_), fun h0 b off e => ?_⟩
        · obtain ⟨off', e'⟩ := hX h0
          rw [e] at e'
          cases e'
          exact hR (hc ▸ h.rp)
        · obtain ⟨off', e'⟩ := hX h0
          rw [e] at e'
          cases e'
          refine ⟨.inr (.inl ⟨rfl, h0⟩), fun e => hR (e ▸ h.rp), fun g hg e2 => ?_⟩
          rcases b5 g hg with e3 | e3
          · have := hx.lt h0 e
            omega
          · exact hR (e2 ▸ (h.vb g e3).1)
    exact { c0 := (oth 0 (by omega)).trans h.c0, c1 := (oth 1 (by omega)).trans h.c1, c2 := (oth 2 (by omega)).trans h.c2, c3 := c5', c4 := (oth 4 (by omega)).trans h.c4, c5 := (oth 5 (by omega)).trans h.c5, c6 := (oth 6 (by omega)).trans h.c6, fz := fun j => (World.frozen?_setCell w5 _ _ _).trans ((fP j).trans (h.fz j)), lt := ltA, rp := .inl h.rp, tok := h.tok.keepR kall (fun _ b off e hc => hc.elim (h.tb b off e).2.1 (fun hv => (h.tb b off e).2.2 b hv rfl)), tb := fun b off e => ⟨.inl (h.tb b off e).1, (h.tb b off e).2.1, nR b (h.tb b off e).1 (h.tb b off e).2.1 (h.tb b off e).2.2⟩, own := ownA, vb := fun g hg => ⟨.inr (.inr hg), nP g hg⟩, nd := (by rw [List.map_append, h.nd]; rfl), ls := lsA, hi := h.hi, ok := h.ok }
  · rcases hr with hr | ⟨hr, _⟩ | hr
    · exact .inl hr
    · exact .inr hr
    · rcases b5 b hr with e | e
      · omega
      · exact .inl (h.vb b e).1
set_option maxRecDepth 100000 in
set_option maxHeartbeats 16000000 in
theorem rput_any {P : Nat} {src : ByteArray} {T : List Tok} {R : Nat → Prop} {s : PS} {w : World} (h : Red w P src T R s) (d : Nd) (a : Option Addr) (c : Nat) (l : List Int) (hx : RdI w a l) (X : Nat) (hX : 0 < l.length → ∃ off, a = some ⟨X, off, none⟩) (hR : ¬ R X) (hPX : P < X) (hnd : s.nd.length < 100000) :
    Calls Tryd.prog 98 #[.pointer (some ⟨P, 0, none⟩), .int .i64 d.k, .int .i64 d.ln, .int .i64 d.n, .string (ofL d.s), .slice a l.length c] w fun e w' => e = .returned (.int .i64 (s.nd.length : Int)) ∧ ∃ R', Red w' P src T R' { s with nd := s.nd ++ [{ d with l := l }] } ∧ Keeps R w w' ∧ ∀ b, b < w.heap.size → R' b → R b ∨ b = X := by
  obtain ⟨i0, hi, hz0, hz1, hz2⟩ := info_parts info_node
  obtain ⟨A, cT, v, L, h⟩ := h
  have H := Lib.hid h
  have hP := h.lo
  have c3 := h.c3
  have f3 := h.fz 3
  have hL : L.length = s.nd.length := by rw [← h.nd, List.length_map]
  obtain ⟨n, hn⟩ : ∃ n, n = L.length := ⟨_, rfl⟩
  rw [← hL, ← hn] at hnd ⊢
  have HN := Lib.hid hn
  have n1 : IntKind.i64.wrap (((n + 1 : Nat) : Int) - 1) = (n : Int) := by rw [show ((n + 1 : Nat) : Int) - 1 = (n : Int) by omega]; exact IntWalk.i64_in _ (by omega)
  obtain ⟨m, hm⟩ : ∃ m, m = l.length := ⟨_, rfl⟩
  rw [← hm]
  obtain ⟨dx, hdx⟩ : ∃ dx : Nd, dx = { d with l := l } := ⟨_, rfl⟩
  rw [← hdx]
  obtain ⟨x, hxx⟩ : ∃ x : NM, x = ⟨dx, a, c⟩ := ⟨_, rfl⟩
  have hxc : x.cells = [.int .i64 d.k, .int .i64 d.ln, .int .i64 d.n, .string (ofL d.s), .slice a m c] := by rw [hxx, hdx, hm]; rfl
  have XC := Lib.hid hxc
  have hADD : Hid (∀ w1 w5 v5, Keeps (fun _ => False) w w1 → w5.ownsRow 0 33 5 v5 (n + 1) (flatN L ++ x.cells) → w1.grownBy w5 v.ownBlock → (v5.ownBlock = v.ownBlock ∨ v5.ownBlock = some w1.heap.size) → (w5.cell? ⟨P, 3, none⟩ = some v ∧ w5.frozen? ⟨P, 3, none⟩ = false) ∧
      ((w5.setCell ⟨P, 3, none⟩ v5).cell? ⟨P, 3, none⟩ = some v5 ∧ ∃ R', Red (w5.setCell ⟨P, 3, none⟩ v5) P src T R' { s with nd := s.nd ++ [dx] } ∧ Keeps R w (w5.setCell ⟨P, 3, none⟩ v5) ∧ ∀ b, b < w.heap.size → R' b → R b ∨ b = X)) := Lib.hid fun w1 w5 v5 k1 ho hg hb => by
    have hr : RdI w1 x.a x.d.l := by rw [hxx, hdx]; exact hx.keep k1 (fun _ _ _ _ h => h)
    have := H.out.add k1 x hr X (by rw [hxx, hdx]; exact hX) hR hPX (by rw [← HN.out]; exact ho) hg hb
    rwa [show x.d = dx by rw [hxx]] at this
  have hOwn : Hid (∀ w1, Keeps (fun _ => False) w w1 → w1.ownsRow 0 33 5 v n (flatN L)) := Lib.hid fun w1 k => by
    rw [HN.out]
    exact (H.out.keepR k (fun _ _ h => h) (fun _ h => h.elim)).own
  obtain ⟨sx, hsx⟩ : ∃ sx, sx = ofL d.s := ⟨_, rfl⟩
  rw [← hsx] at XC ⊢
  obtain ⟨A0, c0', rfl⟩ := own_formk h.own
  rw [← hn] at c3 hADD hOwn
  clear hn hxx hxc hsx hx hX hR hL hdx hm h hPX
  go_enter Tryd.func98, Tryd.ntmps98
  go_upto_region 2 with (at_builtin; have K4 := Lib.hid (Keeps.one w (.cells #[.int .i64 d.k, .int .i64 d.ln, .int .i64 d.n, .string sx, .slice a m c] 33)); refine wpList_append_atk rfl (.tmp 17) (.tmp 24) 24 rfl 0 33 i0 _ 5 64 Tryd.underlying24 hi hz0 hz1 hz2 (by rfl) (by omega) (.slice A0 n c0') n (flatN L) (by rfl) (hOwn.out _ K4.out) ⟨w.heap.size, 0, none⟩ 1 1 x.cells (by rfl) (by rw [XC.out]; rfl) (by have e := XC.out; have hh := news5 (w := w) x 33; rw [e] at hh ⊢; exact hh) (NM.one x) (by omega) (by omega) (Nat.zero_le _) ?_; intro v5 w5 h5 g5 b5; obtain ⟨A5, c5', rfl⟩ := own_formk h5; have hm := hADD.out _ _ _ K4.out h5 g5 b5; have HM := Lib.hid hm.2.2; have e5 := hm.1.1; have g5' := hm.1.2; have e6 := hm.2.1; clear hm h5 g5 b5 K4 c3 f3)
  clear e5 g5'
  generalize w5.setCell ⟨P, 3, none⟩ (.slice A5 (n + 1) c5') = w6 at e6 HM ⊢
  go_wp2_with fail
  go_ret
  exact ⟨rfl, HM.out⟩
/-- The contract of a function that puts a node. -/
def PutC (P : Nat) (src : ByteArray) (T : List Tok) (f : Nat) (mm : Nd → List Int → PM Int) : Prop :=
  ∀ (k ln n : Int) (x : List UInt8) (l : List Int) (s s' : PS) (r : Int) (R : Nat → Prop) (w : World) (a : Option Addr) (c : Nat), mm ⟨k, ln, n, x, []⟩ l s = some (r, s') → Red w P src T R s → RdI w a l → NewRow P R a l →
    Calls Tryd.prog f #[.pointer (some ⟨P, 0, none⟩), .int .i64 k, .int .i64 ln, .int .i64 n, .string (ofL x), .slice a l.length c] w fun e w' => e = .returned (.int .i64 r) ∧ ∃ R', Red w' P src T R' s' ∧ Keeps R w w' ∧ ∀ b, b < w.heap.size → R' b → R b ∨ ∃ off, a = some ⟨b, off, none⟩
theorem putC (P : Nat) (src : ByteArray) (T : List Tok) : PutC P src T 98 nodeM := by
  intro k ln n x l s s' r R w a c hm hp hr hn
  obtain ⟨h1, rfl, rfl⟩ := node_out hm
  by_cases h0 : 0 < l.length
  · obtain ⟨X, off, e1, hX, hPX⟩ := hn h0
    refine (rput_any hp ⟨k, ln, n, x, []⟩ a c l hr X (fun _ => ⟨off, e1⟩) hX hPX h1).mono fun e w' ⟨h1, R', h2, h3, h4⟩ => ⟨h1, R', h2, h3, fun b hb hr => (h4 b hb hr).imp id fun e2 => ⟨off, by rw [e2]; exact e1⟩⟩
  · refine (rput_any hp ⟨k, ln, n, x, []⟩ a c l hr w.heap.size (fun h => absurd h h0) hp.new hp.lo h1).mono fun e w' ⟨h1, R', h2, h3, h4⟩ => ⟨h1, R', h2, h3, fun b hb hr => (h4 b hb hr).imp id fun e => by omega⟩
section
variable {P : Nat} {src : ByteArray} {T : List Tok} {f : Nat} {mm : Nd → List Int → PM Int} {R : Nat → Prop} {s s' : PS} {w : World} {r : Int}
theorem PutC.nil (h : PutC P src T f mm) (hp : Red w P src T R s) (k ln n : Int) (x : List UInt8) (hm : mm ⟨k, ln, n, x, []⟩ [] s = some (r, s')) :
    Calls Tryd.prog f #[.pointer (some ⟨P, 0, none⟩), .int .i64 k, .int .i64 ln, .int .i64 n, .string (ofL x), .slice none 0 0] w (PostR P src T R w (.int .i64 r) s') :=
  (h k ln n x [] s s' r R w none 0 hm hp (fun h => absurd h (by simp)) (fun h => absurd h (by simp))).mono fun e w' ⟨h1, R', h2, h3, h4⟩ => ⟨h1, R', h2, h3, fun b hb hr => (h4 b hb hr).elim id (fun ⟨off, e⟩ => by cases e)⟩
theorem PutC.fresh (h : PutC P src T f mm) (hp : Red w P src T R s) (k ln n : Int) (x : List UInt8) (l : List Int) (o : Obj) (m : Nat) (hl : m = l.length) (hr : RdI (w.alloc o) (some ⟨w.heap.size, 0, none⟩) l) (hm : mm ⟨k, ln, n, x, []⟩ l s = some (r, s')) :
    Calls Tryd.prog f #[.pointer (some ⟨P, 0, none⟩), .int .i64 k, .int .i64 ln, .int .i64 n, .string (ofL x), .slice (some ⟨w.heap.size, 0, none⟩) m m] (w.alloc o) (PostR P src T R w (.int .i64 r) s') := by
  subst hl
  refine (h k ln n x l s s' r R (w.alloc o) (some ⟨w.heap.size, 0, none⟩) l.length hm (hp.keep (Keeps.one w o)) hr (fun _ => ⟨w.heap.size, 0, rfl, hp.new, hp.lo⟩)).mono fun e w' ⟨h1, R', h2, h3, h4⟩ => ⟨h1, R', h2, ?_, fun b hb hr => ?_⟩
  · exact ((Keeps.one w o).mono (T := R) (fun _ _ h => h.elim)).trans h3 (fun _ _ h => h)
  · rcases h4 b (by rw [World.size_alloc]; omega) hr with h5 | ⟨off, e⟩
    · exact h5
    · cases e
      exact absurd hb (Nat.lt_irrefl _)
theorem PutC.one (h : PutC P src T f mm) (hp : Red w P src T R s) (k ln n : Int) (x : List UInt8) (a : Int) (hm : mm ⟨k, ln, n, x, []⟩ [a] s = some (r, s')) :
    Calls Tryd.prog f #[.pointer (some ⟨P, 0, none⟩), .int .i64 k, .int .i64 ln, .int .i64 n, .string (ofL x), .slice (some ⟨w.heap.size, 0, none⟩) 1 1] (w.alloc (.cells #[.int .i64 a] 3)) (PostR P src T R w (.int .i64 r) s') :=
  h.fresh hp k ln n x [a] _ 1 rfl (fun _ => ⟨w.heap.size, 0, rfl, fun j hj => by
    have : j = 0 := by simp at hj; omega
    subst this
    exact World.cell?_alloc_mark w #[.int .i64 a] 3 (0, 0) 0⟩) hm
theorem PutC.two (h : PutC P src T f mm) (hp : Red w P src T R s) (k ln n : Int) (x : List UInt8) (a b : Int) (hm : mm ⟨k, ln, n, x, []⟩ [a, b] s = some (r, s')) :
    Calls Tryd.prog f #[.pointer (some ⟨P, 0, none⟩), .int .i64 k, .int .i64 ln, .int .i64 n, .string (ofL x), .slice (some ⟨w.heap.size, 0, none⟩) 2 2] (w.alloc (.cells #[.int .i64 a, .int .i64 b] 3)) (PostR P src T R w (.int .i64 r) s') :=
  h.fresh hp k ln n x [a, b] _ 2 rfl (fun _ => ⟨w.heap.size, 0, rfl, fun j hj => by
    rw [Nat.zero_add, World.cell?_alloc_mark w #[.int .i64 a, .int .i64 b] 3 (0, 0) j]
    match j, hj with
    | 0, _ => rfl
    | 1, _ => rfl⟩) hm
/-- A row that the caller made since its beginning, at w0. -/
theorem PutC.row (h : PutC P src T f mm) (hp : Red w P src T R s) (k ln n : Int) (x : List UInt8) (l : List Int) {A : Option Addr} {m c : Nat} (hl : m = l.length) (ho : w.ownsRow 0 3 1 (.slice A m c) m (valI l)) {R0 : Nat → Prop} {w0 : World} (hf : Fr R0 w0 R w) (hP0 : P < w0.heap.size)
    (hb : ∀ g, (Value.slice A m c).ownBlock = some g → ¬ R g ∧ w0.heap.size ≤ g) (hm : mm ⟨k, ln, n, x, []⟩ l s = some (r, s')) :
    Calls Tryd.prog f #[.pointer (some ⟨P, 0, none⟩), .int .i64 k, .int .i64 ln, .int .i64 n, .string (ofL x), .slice A m c] w (PostR P src T R0 w0 (.int .i64 r) s') := by
  have hr := own_rdI ho hl
  subst hl
  have form : 0 < l.length → ∃ g, A = some ⟨g, 0, none⟩ ∧ (Value.slice A l.length c).ownBlock = some g := fun h0 => by
    rcases ho.2 with ⟨e1, h1⟩ | ⟨g, cap, cur, e1, _⟩
    · omega
    · have e2 : A = some ⟨g, 0, none⟩ := by injection e1
      exact ⟨g, e2, by rw [e2]; rfl⟩
  refine (h k ln n x l s s' r R w A c hm hp hr (fun h0 => ?_)).mono fun e w' ⟨h1, R', h2, h3, h4⟩ => ⟨h1, R', h2, hf.1.trans h3 (fun x hx hr => hf.2 x hx hr), fun b hb2 hr2 => ?_⟩
  · obtain ⟨g, e, eb⟩ := form h0
    exact ⟨g, 0, e, (hb g eb).1, Nat.lt_of_lt_of_le hP0 (hb g eb).2⟩
  · rcases h4 b (Nat.lt_of_lt_of_le hb2 hf.1.size) hr2 with h5 | ⟨off, e⟩
    · exact hf.2 b hb2 h5
    · exfalso
      rcases ho.2 with ⟨e1, h1⟩ | ⟨g, cap, cur, e1, _⟩
      · have e2 : A = none := by injection e1
        rw [e2] at e
        cases e
      · have e2 : A = some ⟨g, 0, none⟩ := by injection e1
        have hg := (hb g (by rw [e2]; rfl)).2
        rw [e2] at e
        cases e
        omega
end
end Go.Proofs.YtgelggdgbmldiaaDoor
