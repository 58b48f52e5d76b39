/-
  Layer 2: the document's reader: factor. Written by an AI agent.
  Layer 2: the document's reader: chain. Written by an AI agent.
-/
import Derived.Test.YtgelggdgbmldiaaDoorMkaz
namespace Go.Proofs.YtgelggdgbmldiaaDoor
open Go Go.RowKit Go.Shelf
set_option linter.unusedVariables false
set_option linter.unusedSimpArgs false
set_option maxRecDepth 100000 in
set_option maxHeartbeats 16000000 in
theorem rfactor_any {P : Nat} {src : ByteArray} {T : List Tok} {fac ex : PM Int} (hsz : src.size ≤ 1000) (EX : RexC P src T 119 ex) (FAC : RexC P src T 148 fac) : RexC P src T 148 (rfactorM src.data.toList T fac ex) := by
  intro s r s' R w h hp
  have HP0 := Lib.hid hp
  have HF0 := Lib.hid (Fr.refl R w)
  have HLO := Lib.hid hp.lo
  have HM := Lib.hid h
  clear h hp
  go_enter Tryd.func148, Tryd.ntmps148
  obtain ⟨ln, hln, h⟩ := ask_out HM.out
  have LC := Lib.hid (rline_q hsz HP0.out hln)
  replace HM := Lib.hid h
  clear h hln
  go_wp2_with fail
  refine LC.out.mono ?_
  rintro e w1 ⟨rfl, k1⟩
  have HP1 := Lib.hid (HP0.out.keep k1)
  have HF1 := Lib.hid (HF0.out.keeps k1)
  clear HP0 HF0 LC k1 
  obtain ⟨b, hb, h⟩ := ask_out HM.out
  have IC := Lib.hid (ris_q HP1.out ({ data := #[45] }) hb)
  replace HM := Lib.hid h
  clear h hb
  cases b with
  | true =>
    go_wp2_with fail
    refine IC.out.mono ?_
    rintro e w2 ⟨rfl, k1⟩
    have HP2 := Lib.hid (HP1.out.keep k1)
    have HF2 := Lib.hid (HF1.out.keeps k1)
    clear HP1 HF1 IC k1 
    obtain ⟨b, hb, h⟩ := ask_out HM.out
    have IC := Lib.hid (ris_q HP2.out ({ data := #[33] }) hb)
    replace HM := Lib.hid h
    clear h hb
    cases b with
    | true =>
      go_wp2_with fail
      refine IC.out.mono ?_
      rintro e w3 ⟨rfl, k1⟩
      have HP3 := Lib.hid (HP2.out.keep k1)
      have HF3 := Lib.hid (HF2.out.keeps k1)
      clear HP2 HF2 IC k1 
      have h := HM.out
      rw [if_pos (show (true || true) = true from rfl)] at h
      replace HM := Lib.hid h
      clear h
      obtain ⟨u, s4, hm, h⟩ := bind_out HM.out
      have NC := Lib.hid (rdown_any HP3.out hm)
      replace HM := Lib.hid h
      clear h hm
      go_wp2_with fail
      refine NC.out.mono ?_
      rintro e w5 ⟨rfl, R6, hp, hf⟩
      have HP4 := Lib.hid hp
      have HF4 := Lib.hid (HF3.out.trans hf)
      clear HP3 HF3 hp hf NC 
      go_upto_region 7 with fail
      obtain ⟨u, s7, hm, h⟩ := bind_out HM.out
      obtain ⟨hi, e1⟩ := go_out hm
      replace HM := Lib.hid h
      obtain ⟨ew, c2, f2, hp, hf⟩ := HP4.out.stepAt hi
      have HP5 : Hid (Red (w5.setCell ⟨P, 2, none⟩ (.int .i64 ((s4.i : Int) + 1))) P src T R6 s7) := Lib.hid (by rw [e1]; exact hp)
      have HF5 := Lib.hid (HF4.out.trans hf)
      clear h hm e1 hi hp hf HP4 HF4
      generalize (s4.i : Int) = ii at *
      go_upto_region 8 with fail
      generalize w5.setCell ⟨P, 2, none⟩ (.int .i64 (ii + 1)) = w8 at *
      clear c2 f2 ew
      obtain ⟨a, s9, hm, h⟩ := bind_out HM.out
      have NC := Lib.hid (FAC _ _ _ _ _ hm HP5.out)
      replace HM := Lib.hid h
      clear h hm
      go_wp2_with fail
      refine NC.out.mono ?_
      rintro e w10 ⟨rfl, R11, hp, hf⟩
      have HP6 := Lib.hid hp
      have HF6 := Lib.hid (HF5.out.trans hf)
      clear HP5 HF5 hp hf NC 
      obtain ⟨u, s12, hm, h⟩ := bind_out HM.out
      obtain ⟨hd, e1⟩ := deep_out hm
      replace HM := Lib.hid h
      have hs := HP6.out.see
      have c4 := hs.c4
      have f4 := hs.fz 4
      have hw := IntWalk.i64_in (s9.dp - 1) (by omega)
      have hset := HP6.out.setDp (s9.dp - 1)
      have HP7 : Hid (Red (w10.setCell ⟨P, 4, none⟩ (.int .i64 (s9.dp - 1))) P src T R11 s12) := Lib.hid (by rw [e1]; exact hset.1)
      have HF7 := Lib.hid (HF6.out.trans hset.2)
      clear h hm e1 hs hset HP6 HF6
      generalize s9.dp = dp at *
      go_upto_region 10 with fail
      generalize w10.setCell ⟨P, 4, none⟩ (.int .i64 (dp - 1)) = w13 at *
      clear c4 f4 hw hd
      have h := HM.out
      first | rw [if_pos rfl] at h | rw [if_pos trivial] at h
      replace HM := Lib.hid h
      clear h
      have NC := Lib.hid ((putC P src T).one HP7.out (7) (ln) (0) ([]) a HM.out)
      go_wp2_with fail
      refine NC.out.mono ?_
      rintro e w14 ⟨rfl, R15, hp, hf⟩
      have HP8 := Lib.hid hp
      have HF8 := Lib.hid (HF7.out.trans hf)
      clear HP7 HF7 hp hf NC 
      go_wp2_with fail
      go_ret
      exact ⟨rfl, _, HP8.out, HF8.out⟩
    | false =>
      go_wp2_with fail
      refine IC.out.mono ?_
      rintro e w16 ⟨rfl, k1⟩
      have HP3 := Lib.hid (HP2.out.keep k1)
      have HF3 := Lib.hid (HF2.out.keeps k1)
      clear HP2 HF2 IC k1 
      have h := HM.out
      rw [if_pos (show (true || false) = true from rfl)] at h
      replace HM := Lib.hid h
      clear h
      obtain ⟨u, s17, hm, h⟩ := bind_out HM.out
      have NC := Lib.hid (rdown_any HP3.out hm)
      replace HM := Lib.hid h
      clear h hm
      go_wp2_with fail
      refine NC.out.mono ?_
      rintro e w18 ⟨rfl, R19, hp, hf⟩
      have HP4 := Lib.hid hp
      have HF4 := Lib.hid (HF3.out.trans hf)
      clear HP3 HF3 hp hf NC 
      go_upto_region 7 with fail
      obtain ⟨u, s20, hm, h⟩ := bind_out HM.out
      obtain ⟨hi, e1⟩ := go_out hm
      replace HM := Lib.hid h
      obtain ⟨ew, c2, f2, hp, hf⟩ := HP4.out.stepAt hi
      have HP5 : Hid (Red (w18.setCell ⟨P, 2, none⟩ (.int .i64 ((s17.i : Int) + 1))) P src T R19 s20) := Lib.hid (by rw [e1]; exact hp)
      have HF5 := Lib.hid (HF4.out.trans hf)
      clear h hm e1 hi hp hf HP4 HF4
      generalize (s17.i : Int) = ii at *
      go_upto_region 8 with fail
      generalize w18.setCell ⟨P, 2, none⟩ (.int .i64 (ii + 1)) = w21 at *
      clear c2 f2 ew
      obtain ⟨a, s22, hm, h⟩ := bind_out HM.out
      have NC := Lib.hid (FAC _ _ _ _ _ hm HP5.out)
      replace HM := Lib.hid h
      clear h hm
      go_wp2_with fail
      refine NC.out.mono ?_
      rintro e w23 ⟨rfl, R24, hp, hf⟩
      have HP6 := Lib.hid hp
      have HF6 := Lib.hid (HF5.out.trans hf)
      clear HP5 HF5 hp hf NC 
      obtain ⟨u, s25, hm, h⟩ := bind_out HM.out
      obtain ⟨hd, e1⟩ := deep_out hm
      replace HM := Lib.hid h
      have hs := HP6.out.see
      have c4 := hs.c4
      have f4 := hs.fz 4
      have hw := IntWalk.i64_in (s22.dp - 1) (by omega)
      have hset := HP6.out.setDp (s22.dp - 1)
      have HP7 : Hid (Red (w23.setCell ⟨P, 4, none⟩ (.int .i64 (s22.dp - 1))) P src T R24 s25) := Lib.hid (by rw [e1]; exact hset.1)
      have HF7 := Lib.hid (HF6.out.trans hset.2)
      clear h hm e1 hs hset HP6 HF6
      generalize s22.dp = dp at *
      go_upto_region 10 with fail
      generalize w23.setCell ⟨P, 4, none⟩ (.int .i64 (dp - 1)) = w26 at *
      clear c4 f4 hw hd
      have h := HM.out
      first | rw [if_pos rfl] at h | rw [if_pos trivial] at h
      replace HM := Lib.hid h
      clear h
      have NC := Lib.hid ((putC P src T).one HP7.out (7) (ln) (0) ([]) a HM.out)
      go_wp2_with fail
      refine NC.out.mono ?_
      rintro e w27 ⟨rfl, R28, hp, hf⟩
      have HP8 := Lib.hid hp
      have HF8 := Lib.hid (HF7.out.trans hf)
      clear HP7 HF7 hp hf NC 
      go_wp2_with fail
      go_ret
      exact ⟨rfl, _, HP8.out, HF8.out⟩
  | false =>
    go_wp2_with fail
    refine IC.out.mono ?_
    rintro e w29 ⟨rfl, k1⟩
    have HP2 := Lib.hid (HP1.out.keep k1)
    have HF2 := Lib.hid (HF1.out.keeps k1)
    clear HP1 HF1 IC k1 
    obtain ⟨b, hb, h⟩ := ask_out HM.out
    have IC := Lib.hid (ris_q HP2.out ({ data := #[33] }) hb)
    replace HM := Lib.hid h
    clear h hb
    cases b with
    | true =>
      go_wp2_with fail
      refine IC.out.mono ?_
      rintro e w30 ⟨rfl, k1⟩
      have HP3 := Lib.hid (HP2.out.keep k1)
      have HF3 := Lib.hid (HF2.out.keeps k1)
      clear HP2 HF2 IC k1 
      have h := HM.out
      rw [if_pos (show (false || true) = true from rfl)] at h
      replace HM := Lib.hid h
      clear h
      obtain ⟨u, s31, hm, h⟩ := bind_out HM.out
      have NC := Lib.hid (rdown_any HP3.out hm)
      replace HM := Lib.hid h
      clear h hm
      go_wp2_with fail
      refine NC.out.mono ?_
      rintro e w32 ⟨rfl, R33, hp, hf⟩
      have HP4 := Lib.hid hp
      have HF4 := Lib.hid (HF3.out.trans hf)
      clear HP3 HF3 hp hf NC 
      go_upto_region 7 with fail
      obtain ⟨u, s34, hm, h⟩ := bind_out HM.out
      obtain ⟨hi, e1⟩ := go_out hm
      replace HM := Lib.hid h
      obtain ⟨ew, c2, f2, hp, hf⟩ := HP4.out.stepAt hi
      have HP5 : Hid (Red (w32.setCell ⟨P, 2, none⟩ (.int .i64 ((s31.i : Int) + 1))) P src T R33 s34) := Lib.hid (by rw [e1]; exact hp)
      have HF5 := Lib.hid (HF4.out.trans hf)
      clear h hm e1 hi hp hf HP4 HF4
      generalize (s31.i : Int) = ii at *
      go_upto_region 8 with fail
      generalize w32.setCell ⟨P, 2, none⟩ (.int .i64 (ii + 1)) = w35 at *
      clear c2 f2 ew
      obtain ⟨a, s36, hm, h⟩ := bind_out HM.out
      have NC := Lib.hid (FAC _ _ _ _ _ hm HP5.out)
      replace HM := Lib.hid h
      clear h hm
      go_wp2_with fail
      refine NC.out.mono ?_
      rintro e w37 ⟨rfl, R38, hp, hf⟩
      have HP6 := Lib.hid hp
      have HF6 := Lib.hid (HF5.out.trans hf)
      clear HP5 HF5 hp hf NC 
      obtain ⟨u, s39, hm, h⟩ := bind_out HM.out
      obtain ⟨hd, e1⟩ := deep_out hm
      replace HM := Lib.hid h
      have hs := HP6.out.see
      have c4 := hs.c4
      have f4 := hs.fz 4
      have hw := IntWalk.i64_in (s36.dp - 1) (by omega)
      have hset := HP6.out.setDp (s36.dp - 1)
      have HP7 : Hid (Red (w37.setCell ⟨P, 4, none⟩ (.int .i64 (s36.dp - 1))) P src T R38 s39) := Lib.hid (by rw [e1]; exact hset.1)
      have HF7 := Lib.hid (HF6.out.trans hset.2)
      clear h hm e1 hs hset HP6 HF6
      generalize s36.dp = dp at *
      go_upto_region 10 with fail
      generalize w37.setCell ⟨P, 4, none⟩ (.int .i64 (dp - 1)) = w40 at *
      clear c4 f4 hw hd
      have h := HM.out
      first | rw [if_neg (show ¬ false = true by decide)] at h | rw [if_neg (show ¬ False by decide)] at h
      replace HM := Lib.hid h
      clear h
      have NC := Lib.hid ((putC P src T).one HP7.out (8) (ln) (0) ([]) a HM.out)
      go_wp2_with fail
      refine NC.out.mono ?_
      rintro e w41 ⟨rfl, R42, hp, hf⟩
      have HP8 := Lib.hid hp
      have HF8 := Lib.hid (HF7.out.trans hf)
      clear HP7 HF7 hp hf NC 
      go_wp2_with fail
      go_ret
      exact ⟨rfl, _, HP8.out, HF8.out⟩
    | false =>
      go_wp2_with fail
      refine IC.out.mono ?_
      rintro e w43 ⟨rfl, k1⟩
      have HP3 := Lib.hid (HP2.out.keep k1)
      have HF3 := Lib.hid (HF2.out.keeps k1)
      clear HP2 HF2 IC k1 
      have h := HM.out
      rw [if_neg (show ¬ (false || false) = true by decide)] at h
      replace HM := Lib.hid h
      clear h
      have NC := Lib.hid (ratom_any hsz EX _ _ _ _ _ HM.out HP3.out)
      go_wp2_with fail
      refine NC.out.mono ?_
      rintro e w44 ⟨rfl, R45, hp, hf⟩
      have HP4 := Lib.hid hp
      have HF4 := Lib.hid (HF3.out.trans hf)
      clear HP3 HF3 hp hf NC 
      go_wp2_with fail
      go_ret
      exact ⟨rfl, _, HP4.out, HF4.out⟩
end Go.Proofs.YtgelggdgbmldiaaDoor

namespace Go.Proofs.YtgelggdgbmldiaaDoor
open Go Go.RowKit Go.Shelf
set_option linter.unusedVariables false
set_option linter.unusedSimpArgs false
/-- The contract of chain at a level. -/
def RchC (P : Nat) (src : ByteArray) (T : List Tok) (lv : Int) (m : PM Int) : Prop :=
  ∀ (s : PS) (a : Int) (s1 : PS) (R : Nat → Prop) (w : World), m s = some (a, s1) → Red w P src T R s → Calls Tryd.prog 134 #[.pointer (some ⟨P, 0, none⟩), .int .i64 lv] w (PostR P src T R w (.int .i64 a) s1)
theorem rnext_q0 {P : Nat} {src : ByteArray} {T : List Tok} {R : Nat → Prop} {s : PS} {w : World} (h : Red w P src T R s) {x : List UInt8} (hx : x = nextR T (signsL 0) s) : Calls Tryd.prog 149 #[.pointer (some ⟨P, 0, none⟩), .int .i64 0] w fun e w' => e = .returned (.string (ofL x)) ∧ Keeps (fun _ => False) w w' :=
  rnext_any h 0 (by omega) hx
set_option maxRecDepth 100000 in
set_option maxHeartbeats 16000000 in
theorem rchain0_any {P : Nat} {src : ByteArray} {T : List Tok} {N : Nat} {sub : PM Int} (hsz : src.size ≤ 1000) (SUB : RchC P src T 1 sub) : RchC P src T 0 (do
    let ln ← ask (lineS src.data.toList T)
    let x ← sub
    rchainR T 0 sub ln N x) := by
  intro s r s' R w h hp
  have HP0 := Lib.hid hp
  have HF0 := Lib.hid (Fr.refl R w)
  have HLO := Lib.hid hp.lo
  have HM := Lib.hid h
  clear h hp
  go_enter Tryd.func134, Tryd.ntmps134
  obtain ⟨ln, hln, h⟩ := ask_out HM.out
  have LC := Lib.hid (rline_q hsz HP0.out hln)
  replace HM := Lib.hid h
  clear h hln
  go_wp2_with fail
  refine LC.out.mono ?_
  rintro e w1 ⟨rfl, k1⟩
  have HP1 := Lib.hid (HP0.out.keep k1)
  have HF1 := Lib.hid (HF0.out.keeps k1)
  clear HP0 HF0 LC k1 
  obtain ⟨x0, s2, hm, h⟩ := bind_out HM.out
  have NC := Lib.hid (SUB _ _ _ _ _ hm HP1.out)
  replace HM := Lib.hid h
  clear h hm
  go_wp2_with fail
  refine NC.out.mono ?_
  rintro e w3 ⟨rfl, R4, hp, hf⟩
  have HP2 := Lib.hid hp
  have HF2 := Lib.hid (HF1.out.trans hf)
  clear HP1 HF1 hp hf NC 
  go_wp2_with fail
  go_loopg [6, 7, 8] N (fun k s6 s7 s8 wr => ∃ (x : Int) (sk : PS) (Rk : Nat → Prop), s6 = .int .i64 x ∧ rchainR T 0 sub ln k x sk = some (r, s') ∧ Red wr P src T Rk sk ∧ Fr R w Rk wr)
  case atStart => exact ⟨x0, _, _, rfl, HM.out, HP2.out, HF2.out⟩
  case round =>
    obtain ⟨x, sk, Rk, rfl, hm, hp, hf⟩ := hrel
    clear HP2 HF2 HM
    cases gk with
    | zero =>
      have h0 : (none : Option (Int × PS)) = some (r, s') := hm
      cases h0
    | succ k =>
      unfold rchainR at hm
      have HP0 := Lib.hid hp
      have HF0 := Lib.hid hf
      have HM := Lib.hid hm
      clear hp hf hm
      obtain ⟨gx, hgx, h⟩ := ask_out HM.out
      have IC := Lib.hid (rnext_q0 HP0.out hgx)
      replace HM := Lib.hid h
      clear h hgx
      have hq : ((ofL gx).toList == []) = decide (gx = []) := by rw [word_beq, ofL_list]
      by_cases hg0 : gx = []
      · have h := HM.out
        rw [if_pos hg0] at h
        replace HM := Lib.hid h
        clear h
        rw [decide_eq_true hg0] at hq
        clear hg0
        go_wp2_with fail
        refine IC.out.mono ?_
        rintro e w5 ⟨rfl, k1⟩
        have HP1 := Lib.hid (HP0.out.keep k1)
        have HF1 := Lib.hid (HF0.out.keeps k1)
        clear HP0 HF0 IC k1 
        obtain ⟨q1, q2⟩ := pure_end HM.out
        subst q1
        subst q2
        go_wp2_with fail
        go_ret
        exact ⟨rfl, _, HP1.out, HF1.out⟩
      · have h := HM.out
        rw [if_neg hg0] at h
        replace HM := Lib.hid h
        clear h
        rw [decide_eq_false hg0] at hq
        clear hg0
        go_wp2_with fail
        refine IC.out.mono ?_
        rintro e w6 ⟨rfl, k1⟩
        have HP1 := Lib.hid (HP0.out.keep k1)
        have HF1 := Lib.hid (HF0.out.keeps k1)
        clear HP0 HF0 IC k1 
        go_upto_region 8 with fail
        clear hq
        obtain ⟨u, s7, hm, h⟩ := bind_out HM.out
        obtain ⟨hi, e1⟩ := go_out hm
        replace HM := Lib.hid h
        obtain ⟨ew, c2, f2, hp, hf⟩ := HP1.out.stepAt hi
        have HP2 : Hid (Red (w6.setCell ⟨P, 2, none⟩ (.int .i64 ((sk.i : Int) + 1))) P src T Rk s7) := Lib.hid (by rw [e1]; exact hp)
        have HF2 := Lib.hid (HF1.out.trans hf)
        clear h hm e1 hi hp hf HP1 HF1
        generalize (sk.i : Int) = ii at *
        go_upto_region 9 with fail
        generalize w6.setCell ⟨P, 2, none⟩ (.int .i64 (ii + 1)) = w8 at *
        clear c2 f2 ew
        obtain ⟨y, s9, hm, h⟩ := bind_out HM.out
        have NC := Lib.hid (SUB _ _ _ _ _ hm HP2.out)
        replace HM := Lib.hid h
        clear h hm
        go_wp2_with fail
        refine NC.out.mono ?_
        rintro e w10 ⟨rfl, R11, hp, hf⟩
        have HP3 := Lib.hid hp
        have HF3 := Lib.hid (HF2.out.trans hf)
        clear HP2 HF2 hp hf NC 
        obtain ⟨z, s12, hm, h⟩ := bind_out HM.out
        have HPUT := Lib.hid hm
        replace HM := Lib.hid h
        clear h hm
        have NC := Lib.hid ((putC P src T).two HP3.out (9) (ln) (0) (gx) x y HPUT.out)
        go_wp2_with fail
        refine NC.out.mono ?_
        rintro e w13 ⟨rfl, R14, hp, hf⟩
        have HP4 := Lib.hid hp
        have HF4 := Lib.hid (HF3.out.trans hf)
        clear HP3 HF3 hp hf NC HPUT
        have h := HM.out
        rw [if_neg (by decide)] at h
        replace HM := Lib.hid h
        clear h
        go_wp2_with fail
        go_roundg k
        case measure => omega
        case rel => exact ⟨z, _, _, rfl, HM.out, HP4.out, HF4.out⟩
theorem rnext_q1 {P : Nat} {src : ByteArray} {T : List Tok} {R : Nat → Prop} {s : PS} {w : World} (h : Red w P src T R s) {x : List UInt8} (hx : x = nextR T (signsL 1) s) : Calls Tryd.prog 149 #[.pointer (some ⟨P, 0, none⟩), .int .i64 1] w fun e w' => e = .returned (.string (ofL x)) ∧ Keeps (fun _ => False) w w' :=
  rnext_any h 1 (by omega) hx
set_option maxRecDepth 100000 in
set_option maxHeartbeats 16000000 in
theorem rchain1_any {P : Nat} {src : ByteArray} {T : List Tok} {N : Nat} {sub : PM Int} (hsz : src.size ≤ 1000) (SUB : RchC P src T 2 sub) : RchC P src T 1 (do
    let ln ← ask (lineS src.data.toList T)
    let x ← sub
    rchainR T 1 sub ln N x) := by
  intro s r s' R w h hp
  have HP0 := Lib.hid hp
  have HF0 := Lib.hid (Fr.refl R w)
  have HLO := Lib.hid hp.lo
  have HM := Lib.hid h
  clear h hp
  go_enter Tryd.func134, Tryd.ntmps134
  obtain ⟨ln, hln, h⟩ := ask_out HM.out
  have LC := Lib.hid (rline_q hsz HP0.out hln)
  replace HM := Lib.hid h
  clear h hln
  go_wp2_with fail
  refine LC.out.mono ?_
  rintro e w1 ⟨rfl, k1⟩
  have HP1 := Lib.hid (HP0.out.keep k1)
  have HF1 := Lib.hid (HF0.out.keeps k1)
  clear HP0 HF0 LC k1 
  obtain ⟨x0, s2, hm, h⟩ := bind_out HM.out
  have NC := Lib.hid (SUB _ _ _ _ _ hm HP1.out)
  replace HM := Lib.hid h
  clear h hm
  go_wp2_with fail
  refine NC.out.mono ?_
  rintro e w3 ⟨rfl, R4, hp, hf⟩
  have HP2 := Lib.hid hp
  have HF2 := Lib.hid (HF1.out.trans hf)
  clear HP1 HF1 hp hf NC 
  go_wp2_with fail
  go_loopg [6, 7, 8] N (fun k s6 s7 s8 wr => ∃ (x : Int) (sk : PS) (Rk : Nat → Prop), s6 = .int .i64 x ∧ rchainR T 1 sub ln k x sk = some (r, s') ∧ Red wr P src T Rk sk ∧ Fr R w Rk wr)
  case atStart => exact ⟨x0, _, _, rfl, HM.out, HP2.out, HF2.out⟩
  case round =>
    obtain ⟨x, sk, Rk, rfl, hm, hp, hf⟩ := hrel
    clear HP2 HF2 HM
    cases gk with
    | zero =>
      have h0 : (none : Option (Int × PS)) = some (r, s') := hm
      cases h0
    | succ k =>
      unfold rchainR at hm
      have HP0 := Lib.hid hp
      have HF0 := Lib.hid hf
      have HM := Lib.hid hm
      clear hp hf hm
      obtain ⟨gx, hgx, h⟩ := ask_out HM.out
      have IC := Lib.hid (rnext_q1 HP0.out hgx)
      replace HM := Lib.hid h
      clear h hgx
      have hq : ((ofL gx).toList == []) = decide (gx = []) := by rw [word_beq, ofL_list]
      by_cases hg0 : gx = []
      · have h := HM.out
        rw [if_pos hg0] at h
        replace HM := Lib.hid h
        clear h
        rw [decide_eq_true hg0] at hq
        clear hg0
        go_wp2_with fail
        refine IC.out.mono ?_
        rintro e w5 ⟨rfl, k1⟩
        have HP1 := Lib.hid (HP0.out.keep k1)
        have HF1 := Lib.hid (HF0.out.keeps k1)
        clear HP0 HF0 IC k1 
        obtain ⟨q1, q2⟩ := pure_end HM.out
        subst q1
        subst q2
        go_wp2_with fail
        go_ret
        exact ⟨rfl, _, HP1.out, HF1.out⟩
      · have h := HM.out
        rw [if_neg hg0] at h
        replace HM := Lib.hid h
        clear h
        rw [decide_eq_false hg0] at hq
        clear hg0
        go_wp2_with fail
        refine IC.out.mono ?_
        rintro e w6 ⟨rfl, k1⟩
        have HP1 := Lib.hid (HP0.out.keep k1)
        have HF1 := Lib.hid (HF0.out.keeps k1)
        clear HP0 HF0 IC k1 
        go_upto_region 8 with fail
        clear hq
        obtain ⟨u, s7, hm, h⟩ := bind_out HM.out
        obtain ⟨hi, e1⟩ := go_out hm
        replace HM := Lib.hid h
        obtain ⟨ew, c2, f2, hp, hf⟩ := HP1.out.stepAt hi
        have HP2 : Hid (Red (w6.setCell ⟨P, 2, none⟩ (.int .i64 ((sk.i : Int) + 1))) P src T Rk s7) := Lib.hid (by rw [e1]; exact hp)
        have HF2 := Lib.hid (HF1.out.trans hf)
        clear h hm e1 hi hp hf HP1 HF1
        generalize (sk.i : Int) = ii at *
        go_upto_region 9 with fail
        generalize w6.setCell ⟨P, 2, none⟩ (.int .i64 (ii + 1)) = w8 at *
        clear c2 f2 ew
        obtain ⟨y, s9, hm, h⟩ := bind_out HM.out
        have NC := Lib.hid (SUB _ _ _ _ _ hm HP2.out)
        replace HM := Lib.hid h
        clear h hm
        go_wp2_with fail
        refine NC.out.mono ?_
        rintro e w10 ⟨rfl, R11, hp, hf⟩
        have HP3 := Lib.hid hp
        have HF3 := Lib.hid (HF2.out.trans hf)
        clear HP2 HF2 hp hf NC 
        obtain ⟨z, s12, hm, h⟩ := bind_out HM.out
        have HPUT := Lib.hid hm
        replace HM := Lib.hid h
        clear h hm
        have NC := Lib.hid ((putC P src T).two HP3.out (9) (ln) (0) (gx) x y HPUT.out)
        go_wp2_with fail
        refine NC.out.mono ?_
        rintro e w13 ⟨rfl, R14, hp, hf⟩
        have HP4 := Lib.hid hp
        have HF4 := Lib.hid (HF3.out.trans hf)
        clear HP3 HF3 hp hf NC HPUT
        have h := HM.out
        rw [if_neg (by decide)] at h
        replace HM := Lib.hid h
        clear h
        go_wp2_with fail
        go_roundg k
        case measure => omega
        case rel => exact ⟨z, _, _, rfl, HM.out, HP4.out, HF4.out⟩
theorem rnext_q2 {P : Nat} {src : ByteArray} {T : List Tok} {R : Nat → Prop} {s : PS} {w : World} (h : Red w P src T R s) {x : List UInt8} (hx : x = nextR T (signsL 2) s) : Calls Tryd.prog 149 #[.pointer (some ⟨P, 0, none⟩), .int .i64 2] w fun e w' => e = .returned (.string (ofL x)) ∧ Keeps (fun _ => False) w w' :=
  rnext_any h 2 (by omega) hx
set_option maxRecDepth 100000 in
set_option maxHeartbeats 16000000 in
theorem rchain2_any {P : Nat} {src : ByteArray} {T : List Tok} {N : Nat} {sub : PM Int} (hsz : src.size ≤ 1000) (SUB : RchC P src T 3 sub) : RchC P src T 2 (do
    let ln ← ask (lineS src.data.toList T)
    let x ← sub
    rchainR T 2 sub ln N x) := by
  intro s r s' R w h hp
  have HP0 := Lib.hid hp
  have HF0 := Lib.hid (Fr.refl R w)
  have HLO := Lib.hid hp.lo
  have HM := Lib.hid h
  clear h hp
  go_enter Tryd.func134, Tryd.ntmps134
  obtain ⟨ln, hln, h⟩ := ask_out HM.out
  have LC := Lib.hid (rline_q hsz HP0.out hln)
  replace HM := Lib.hid h
  clear h hln
  go_wp2_with fail
  refine LC.out.mono ?_
  rintro e w1 ⟨rfl, k1⟩
  have HP1 := Lib.hid (HP0.out.keep k1)
  have HF1 := Lib.hid (HF0.out.keeps k1)
  clear HP0 HF0 LC k1 
  obtain ⟨x0, s2, hm, h⟩ := bind_out HM.out
  have NC := Lib.hid (SUB _ _ _ _ _ hm HP1.out)
  replace HM := Lib.hid h
  clear h hm
  go_wp2_with fail
  refine NC.out.mono ?_
  rintro e w3 ⟨rfl, R4, hp, hf⟩
  have HP2 := Lib.hid hp
  have HF2 := Lib.hid (HF1.out.trans hf)
  clear HP1 HF1 hp hf NC 
  go_wp2_with fail
  go_loopg [6, 7, 8] N (fun k s6 s7 s8 wr => ∃ (x : Int) (sk : PS) (Rk : Nat → Prop), s6 = .int .i64 x ∧ rchainR T 2 sub ln k x sk = some (r, s') ∧ Red wr P src T Rk sk ∧ Fr R w Rk wr)
  case atStart => exact ⟨x0, _, _, rfl, HM.out, HP2.out, HF2.out⟩
  case round =>
    obtain ⟨x, sk, Rk, rfl, hm, hp, hf⟩ := hrel
    clear HP2 HF2 HM
    cases gk with
    | zero =>
      have h0 : (none : Option (Int × PS)) = some (r, s') := hm
      cases h0
    | succ k =>
      unfold rchainR at hm
      have HP0 := Lib.hid hp
      have HF0 := Lib.hid hf
      have HM := Lib.hid hm
      clear hp hf hm
      obtain ⟨gx, hgx, h⟩ := ask_out HM.out
      have IC := Lib.hid (rnext_q2 HP0.out hgx)
      replace HM := Lib.hid h
      clear h hgx
      have hq : ((ofL gx).toList == []) = decide (gx = []) := by rw [word_beq, ofL_list]
      by_cases hg0 : gx = []
      · have h := HM.out
        rw [if_pos hg0] at h
        replace HM := Lib.hid h
        clear h
        rw [decide_eq_true hg0] at hq
        clear hg0
        go_wp2_with fail
        refine IC.out.mono ?_
        rintro e w5 ⟨rfl, k1⟩
        have HP1 := Lib.hid (HP0.out.keep k1)
        have HF1 := Lib.hid (HF0.out.keeps k1)
        clear HP0 HF0 IC k1 
        obtain ⟨q1, q2⟩ := pure_end HM.out
        subst q1
        subst q2
        go_wp2_with fail
        go_ret
        exact ⟨rfl, _, HP1.out, HF1.out⟩
      · have h := HM.out
        rw [if_neg hg0] at h
        replace HM := Lib.hid h
        clear h
        rw [decide_eq_false hg0] at hq
        clear hg0
        go_wp2_with fail
        refine IC.out.mono ?_
        rintro e w6 ⟨rfl, k1⟩
        have HP1 := Lib.hid (HP0.out.keep k1)
        have HF1 := Lib.hid (HF0.out.keeps k1)
        clear HP0 HF0 IC k1 
        go_upto_region 8 with fail
        clear hq
        obtain ⟨u, s7, hm, h⟩ := bind_out HM.out
        obtain ⟨hi, e1⟩ := go_out hm
        replace HM := Lib.hid h
        obtain ⟨ew, c2, f2, hp, hf⟩ := HP1.out.stepAt hi
        have HP2 : Hid (Red (w6.setCell ⟨P, 2, none⟩ (.int .i64 ((sk.i : Int) + 1))) P src T Rk s7) := Lib.hid (by rw [e1]; exact hp)
        have HF2 := Lib.hid (HF1.out.trans hf)
        clear h hm e1 hi hp hf HP1 HF1
        generalize (sk.i : Int) = ii at *
        go_upto_region 9 with fail
        generalize w6.setCell ⟨P, 2, none⟩ (.int .i64 (ii + 1)) = w8 at *
        clear c2 f2 ew
        obtain ⟨y, s9, hm, h⟩ := bind_out HM.out
        have NC := Lib.hid (SUB _ _ _ _ _ hm HP2.out)
        replace HM := Lib.hid h
        clear h hm
        go_wp2_with fail
        refine NC.out.mono ?_
        rintro e w10 ⟨rfl, R11, hp, hf⟩
        have HP3 := Lib.hid hp
        have HF3 := Lib.hid (HF2.out.trans hf)
        clear HP2 HF2 hp hf NC 
        obtain ⟨z, s12, hm, h⟩ := bind_out HM.out
        have HPUT := Lib.hid hm
        replace HM := Lib.hid h
        clear h hm
        have NC := Lib.hid ((putC P src T).two HP3.out (9) (ln) (0) (gx) x y HPUT.out)
        go_wp2_with fail
        refine NC.out.mono ?_
        rintro e w13 ⟨rfl, R14, hp, hf⟩
        have HP4 := Lib.hid hp
        have HF4 := Lib.hid (HF3.out.trans hf)
        clear HP3 HF3 hp hf NC HPUT
        have h := HM.out
        first | rw [if_pos trivial] at h | rw [if_pos rfl] at h
        replace HM := Lib.hid h
        clear h
        obtain ⟨q1, q2⟩ := pure_end HM.out
        subst q1
        subst q2
        go_wp2_with fail
        go_ret
        exact ⟨rfl, _, HP4.out, HF4.out⟩
theorem rnext_q3 {P : Nat} {src : ByteArray} {T : List Tok} {R : Nat → Prop} {s : PS} {w : World} (h : Red w P src T R s) {x : List UInt8} (hx : x = nextR T (signsL 3) s) : Calls Tryd.prog 149 #[.pointer (some ⟨P, 0, none⟩), .int .i64 3] w fun e w' => e = .returned (.string (ofL x)) ∧ Keeps (fun _ => False) w w' :=
  rnext_any h 3 (by omega) hx
set_option maxRecDepth 100000 in
set_option maxHeartbeats 16000000 in
theorem rchain3_any {P : Nat} {src : ByteArray} {T : List Tok} {N : Nat} {sub : PM Int} (hsz : src.size ≤ 1000) (SUB : RchC P src T 4 sub) : RchC P src T 3 (do
    let ln ← ask (lineS src.data.toList T)
    let x ← sub
    rchainR T 3 sub ln N x) := by
  intro s r s' R w h hp
  have HP0 := Lib.hid hp
  have HF0 := Lib.hid (Fr.refl R w)
  have HLO := Lib.hid hp.lo
  have HM := Lib.hid h
  clear h hp
  go_enter Tryd.func134, Tryd.ntmps134
  obtain ⟨ln, hln, h⟩ := ask_out HM.out
  have LC := Lib.hid (rline_q hsz HP0.out hln)
  replace HM := Lib.hid h
  clear h hln
  go_wp2_with fail
  refine LC.out.mono ?_
  rintro e w1 ⟨rfl, k1⟩
  have HP1 := Lib.hid (HP0.out.keep k1)
  have HF1 := Lib.hid (HF0.out.keeps k1)
  clear HP0 HF0 LC k1 
  obtain ⟨x0, s2, hm, h⟩ := bind_out HM.out
  have NC := Lib.hid (SUB _ _ _ _ _ hm HP1.out)
  replace HM := Lib.hid h
  clear h hm
  go_wp2_with fail
  refine NC.out.mono ?_
  rintro e w3 ⟨rfl, R4, hp, hf⟩
  have HP2 := Lib.hid hp
  have HF2 := Lib.hid (HF1.out.trans hf)
  clear HP1 HF1 hp hf NC 
  go_wp2_with fail
  go_loopg [6, 7, 8] N (fun k s6 s7 s8 wr => ∃ (x : Int) (sk : PS) (Rk : Nat → Prop), s6 = .int .i64 x ∧ rchainR T 3 sub ln k x sk = some (r, s') ∧ Red wr P src T Rk sk ∧ Fr R w Rk wr)
  case atStart => exact ⟨x0, _, _, rfl, HM.out, HP2.out, HF2.out⟩
  case round =>
    obtain ⟨x, sk, Rk, rfl, hm, hp, hf⟩ := hrel
    clear HP2 HF2 HM
    cases gk with
    | zero =>
      have h0 : (none : Option (Int × PS)) = some (r, s') := hm
      cases h0
    | succ k =>
      unfold rchainR at hm
      have HP0 := Lib.hid hp
      have HF0 := Lib.hid hf
      have HM := Lib.hid hm
      clear hp hf hm
      obtain ⟨gx, hgx, h⟩ := ask_out HM.out
      have IC := Lib.hid (rnext_q3 HP0.out hgx)
      replace HM := Lib.hid h
      clear h hgx
      have hq : ((ofL gx).toList == []) = decide (gx = []) := by rw [word_beq, ofL_list]
      by_cases hg0 : gx = []
      · have h := HM.out
        rw [if_pos hg0] at h
        replace HM := Lib.hid h
        clear h
        rw [decide_eq_true hg0] at hq
        clear hg0
        go_wp2_with fail
        refine IC.out.mono ?_
        rintro e w5 ⟨rfl, k1⟩
        have HP1 := Lib.hid (HP0.out.keep k1)
        have HF1 := Lib.hid (HF0.out.keeps k1)
        clear HP0 HF0 IC k1 
        obtain ⟨q1, q2⟩ := pure_end HM.out
        subst q1
        subst q2
        go_wp2_with fail
        go_ret
        exact ⟨rfl, _, HP1.out, HF1.out⟩
      · have h := HM.out
        rw [if_neg hg0] at h
        replace HM := Lib.hid h
        clear h
        rw [decide_eq_false hg0] at hq
        clear hg0
        go_wp2_with fail
        refine IC.out.mono ?_
        rintro e w6 ⟨rfl, k1⟩
        have HP1 := Lib.hid (HP0.out.keep k1)
        have HF1 := Lib.hid (HF0.out.keeps k1)
        clear HP0 HF0 IC k1 
        go_upto_region 8 with fail
        clear hq
        obtain ⟨u, s7, hm, h⟩ := bind_out HM.out
        obtain ⟨hi, e1⟩ := go_out hm
        replace HM := Lib.hid h
        obtain ⟨ew, c2, f2, hp, hf⟩ := HP1.out.stepAt hi
        have HP2 : Hid (Red (w6.setCell ⟨P, 2, none⟩ (.int .i64 ((sk.i : Int) + 1))) P src T Rk s7) := Lib.hid (by rw [e1]; exact hp)
        have HF2 := Lib.hid (HF1.out.trans hf)
        clear h hm e1 hi hp hf HP1 HF1
        generalize (sk.i : Int) = ii at *
        go_upto_region 9 with fail
        generalize w6.setCell ⟨P, 2, none⟩ (.int .i64 (ii + 1)) = w8 at *
        clear c2 f2 ew
        obtain ⟨y, s9, hm, h⟩ := bind_out HM.out
        have NC := Lib.hid (SUB _ _ _ _ _ hm HP2.out)
        replace HM := Lib.hid h
        clear h hm
        go_wp2_with fail
        refine NC.out.mono ?_
        rintro e w10 ⟨rfl, R11, hp, hf⟩
        have HP3 := Lib.hid hp
        have HF3 := Lib.hid (HF2.out.trans hf)
        clear HP2 HF2 hp hf NC 
        obtain ⟨z, s12, hm, h⟩ := bind_out HM.out
        have HPUT := Lib.hid hm
        replace HM := Lib.hid h
        clear h hm
        have NC := Lib.hid ((putC P src T).two HP3.out (9) (ln) (0) (gx) x y HPUT.out)
        go_wp2_with fail
        refine NC.out.mono ?_
        rintro e w13 ⟨rfl, R14, hp, hf⟩
        have HP4 := Lib.hid hp
        have HF4 := Lib.hid (HF3.out.trans hf)
        clear HP3 HF3 hp hf NC HPUT
        have h := HM.out
        rw [if_neg (by decide)] at h
        replace HM := Lib.hid h
        clear h
        go_wp2_with fail
        go_roundg k
        case measure => omega
        case rel => exact ⟨z, _, _, rfl, HM.out, HP4.out, HF4.out⟩
theorem rnext_q4 {P : Nat} {src : ByteArray} {T : List Tok} {R : Nat → Prop} {s : PS} {w : World} (h : Red w P src T R s) {x : List UInt8} (hx : x = nextR T (signsL 4) s) : Calls Tryd.prog 149 #[.pointer (some ⟨P, 0, none⟩), .int .i64 4] w fun e w' => e = .returned (.string (ofL x)) ∧ Keeps (fun _ => False) w w' :=
  rnext_any h 4 (by omega) hx
set_option maxRecDepth 100000 in
set_option maxHeartbeats 16000000 in
theorem rchain4_any {P : Nat} {src : ByteArray} {T : List Tok} {N : Nat} {sub : PM Int} (hsz : src.size ≤ 1000) (SUB : RchC P src T 5 sub) : RchC P src T 4 (do
    let ln ← ask (lineS src.data.toList T)
    let x ← sub
    rchainR T 4 sub ln N x) := by
  intro s r s' R w h hp
  have HP0 := Lib.hid hp
  have HF0 := Lib.hid (Fr.refl R w)
  have HLO := Lib.hid hp.lo
  have HM := Lib.hid h
  clear h hp
  go_enter Tryd.func134, Tryd.ntmps134
  obtain ⟨ln, hln, h⟩ := ask_out HM.out
  have LC := Lib.hid (rline_q hsz HP0.out hln)
  replace HM := Lib.hid h
  clear h hln
  go_wp2_with fail
  refine LC.out.mono ?_
  rintro e w1 ⟨rfl, k1⟩
  have HP1 := Lib.hid (HP0.out.keep k1)
  have HF1 := Lib.hid (HF0.out.keeps k1)
  clear HP0 HF0 LC k1 
  obtain ⟨x0, s2, hm, h⟩ := bind_out HM.out
  have NC := Lib.hid (SUB _ _ _ _ _ hm HP1.out)
  replace HM := Lib.hid h
  clear h hm
  go_wp2_with fail
  refine NC.out.mono ?_
  rintro e w3 ⟨rfl, R4, hp, hf⟩
  have HP2 := Lib.hid hp
  have HF2 := Lib.hid (HF1.out.trans hf)
  clear HP1 HF1 hp hf NC 
  go_wp2_with fail
  go_loopg [6, 7, 8] N (fun k s6 s7 s8 wr => ∃ (x : Int) (sk : PS) (Rk : Nat → Prop), s6 = .int .i64 x ∧ rchainR T 4 sub ln k x sk = some (r, s') ∧ Red wr P src T Rk sk ∧ Fr R w Rk wr)
  case atStart => exact ⟨x0, _, _, rfl, HM.out, HP2.out, HF2.out⟩
  case round =>
    obtain ⟨x, sk, Rk, rfl, hm, hp, hf⟩ := hrel
    clear HP2 HF2 HM
    cases gk with
    | zero =>
      have h0 : (none : Option (Int × PS)) = some (r, s') := hm
      cases h0
    | succ k =>
      unfold rchainR at hm
      have HP0 := Lib.hid hp
      have HF0 := Lib.hid hf
      have HM := Lib.hid hm
      clear hp hf hm
      obtain ⟨gx, hgx, h⟩ := ask_out HM.out
      have IC := Lib.hid (rnext_q4 HP0.out hgx)
      replace HM := Lib.hid h
      clear h hgx
      have hq : ((ofL gx).toList == []) = decide (gx = []) := by rw [word_beq, ofL_list]
      by_cases hg0 : gx = []
      · have h := HM.out
        rw [if_pos hg0] at h
        replace HM := Lib.hid h
        clear h
        rw [decide_eq_true hg0] at hq
        clear hg0
        go_wp2_with fail
        refine IC.out.mono ?_
        rintro e w5 ⟨rfl, k1⟩
        have HP1 := Lib.hid (HP0.out.keep k1)
        have HF1 := Lib.hid (HF0.out.keeps k1)
        clear HP0 HF0 IC k1 
        obtain ⟨q1, q2⟩ := pure_end HM.out
        subst q1
        subst q2
        go_wp2_with fail
        go_ret
        exact ⟨rfl, _, HP1.out, HF1.out⟩
      · have h := HM.out
        rw [if_neg hg0] at h
        replace HM := Lib.hid h
        clear h
        rw [decide_eq_false hg0] at hq
        clear hg0
        go_wp2_with fail
        refine IC.out.mono ?_
        rintro e w6 ⟨rfl, k1⟩
        have HP1 := Lib.hid (HP0.out.keep k1)
        have HF1 := Lib.hid (HF0.out.keeps k1)
        clear HP0 HF0 IC k1 
        go_upto_region 8 with fail
        clear hq
        obtain ⟨u, s7, hm, h⟩ := bind_out HM.out
        obtain ⟨hi, e1⟩ := go_out hm
        replace HM := Lib.hid h
        obtain ⟨ew, c2, f2, hp, hf⟩ := HP1.out.stepAt hi
        have HP2 : Hid (Red (w6.setCell ⟨P, 2, none⟩ (.int .i64 ((sk.i : Int) + 1))) P src T Rk s7) := Lib.hid (by rw [e1]; exact hp)
        have HF2 := Lib.hid (HF1.out.trans hf)
        clear h hm e1 hi hp hf HP1 HF1
        generalize (sk.i : Int) = ii at *
        go_upto_region 9 with fail
        generalize w6.setCell ⟨P, 2, none⟩ (.int .i64 (ii + 1)) = w8 at *
        clear c2 f2 ew
        obtain ⟨y, s9, hm, h⟩ := bind_out HM.out
        have NC := Lib.hid (SUB _ _ _ _ _ hm HP2.out)
        replace HM := Lib.hid h
        clear h hm
        go_wp2_with fail
        refine NC.out.mono ?_
        rintro e w10 ⟨rfl, R11, hp, hf⟩
        have HP3 := Lib.hid hp
        have HF3 := Lib.hid (HF2.out.trans hf)
        clear HP2 HF2 hp hf NC 
        obtain ⟨z, s12, hm, h⟩ := bind_out HM.out
        have HPUT := Lib.hid hm
        replace HM := Lib.hid h
        clear h hm
        have NC := Lib.hid ((putC P src T).two HP3.out (9) (ln) (0) (gx) x y HPUT.out)
        go_wp2_with fail
        refine NC.out.mono ?_
        rintro e w13 ⟨rfl, R14, hp, hf⟩
        have HP4 := Lib.hid hp
        have HF4 := Lib.hid (HF3.out.trans hf)
        clear HP3 HF3 hp hf NC HPUT
        have h := HM.out
        rw [if_neg (by decide)] at h
        replace HM := Lib.hid h
        clear h
        go_wp2_with fail
        go_roundg k
        case measure => omega
        case rel => exact ⟨z, _, _, rfl, HM.out, HP4.out, HF4.out⟩
set_option maxRecDepth 100000 in
set_option maxHeartbeats 16000000 in
theorem rchain5_any {P : Nat} {src : ByteArray} {T : List Tok} {fac : PM Int} (FAC : RexC P src T 148 fac) : RchC P src T 5 fac := by
  intro s r s' R w h hp
  have HP0 := Lib.hid hp
  have HF0 := Lib.hid (Fr.refl R w)
  have HLO := Lib.hid hp.lo
  have HM := Lib.hid h
  clear h hp
  go_enter Tryd.func134, Tryd.ntmps134
  have NC := Lib.hid (FAC _ _ _ _ _ HM.out HP0.out)
  go_wp2_with fail
  refine NC.out.mono ?_
  rintro e w1 ⟨rfl, R2, hp, hf⟩
  have HP1 := Lib.hid hp
  have HF1 := Lib.hid (HF0.out.trans hf)
  clear HP0 HF0 hp hf NC 
  go_wp2_with fail
  go_ret
  exact ⟨rfl, _, HP1.out, HF1.out⟩
set_option maxRecDepth 100000 in
set_option maxHeartbeats 16000000 in
theorem rexpr_any {P : Nat} {src : ByteArray} {T : List Tok} {ex : PM Int} (CH : RchC P src T 0 ex) : RexC P src T 119 ex := by
  intro s r s' R w h hp
  have HP0 := Lib.hid hp
  have HF0 := Lib.hid (Fr.refl R w)
  have HLO := Lib.hid hp.lo
  have HM := Lib.hid h
  clear h hp
  go_enter Tryd.func119, Tryd.ntmps119
  have NC := Lib.hid (CH _ _ _ _ _ HM.out HP0.out)
  go_wp2_with fail
  refine NC.out.mono ?_
  rintro e w1 ⟨rfl, R2, hp, hf⟩
  have HP1 := Lib.hid hp
  have HF1 := Lib.hid (HF0.out.trans hf)
  clear HP0 HF0 hp hf NC 
  go_wp2_with fail
  go_ret
  exact ⟨rfl, _, HP1.out, HF1.out⟩
/-- What the levels tell, so deep at most. -/
theorem rex_any {P : Nat} {src : ByteArray} {T : List Tok} (hsz : src.size ≤ 1000) (N : Nat) : (RexC P src T 148 (rexM src.data.toList T N 5) ∧ ∀ lv, lv ≤ 5 → RchC P src T (lv : Nat) (rexM src.data.toList T N lv)) := by
  induction N with
  | zero => exact ⟨fun s a s1 R w h => (by cases h), fun lv _ s a s1 R w h => (by cases h)⟩
  | succ n ih =>
    have fac : RexC P src T 148 (rexM src.data.toList T (n + 1) 5) := rfactor_any hsz (rexpr_any (ih.2 0 (by omega))) ih.1
    refine ⟨fac, fun lv hlv => ?_⟩
    match lv, hlv with
    | 0, _ => exact rchain0_any hsz (ih.2 1 (by omega))
    | 1, _ => exact rchain1_any hsz (ih.2 2 (by omega))
    | 2, _ => exact rchain2_any hsz (ih.2 3 (by omega))
    | 3, _ => exact rchain3_any hsz (ih.2 4 (by omega))
    | 4, _ => exact rchain4_any hsz (ih.2 5 (by omega))
    | 5, _ => exact rchain5_any fac
end Go.Proofs.YtgelggdgbmldiaaDoor
