/-
  Layer 2: the document's reader: chain. Written by an AI agent.
  Layer 2: factor, ended. Written by an AI agent.
  Layer 2: right, kind, param. Written by an AI agent.
-/
import Derived.Test.YtgelggdgbmldiaaGreatDoorMaaj
import Derived.Deep.RegionHeld
import Derived.Deep.LoopGhost
import Derived.Test.YtgelggdgbmldiaaGreatDoorMaai
namespace Go.Proofs.YtgelggdgbmldiaaGreatDoor
open Go Go.RowKit Go.Shelf
set_option linter.unusedVariables false
set_option linter.unusedSimpArgs false


/-- The contract of chain at a level. -/
def RchC (P : Nat) (src : ByteArray) (T : List Tok) (lv : Int) (m : PM Int) : Prop :=
  ∀ (s : PS) (a : Int) (s1 : PS) (R : Nat → Prop) (w : World), m s = some (a, s1) → Red w P src T R s → Calls Tryz.prog 95 #[.pointer (some ⟨P, 0, none⟩), .int .i64 lv] w (PostR P src T R w (.int .i64 a) s1)


theorem rnext_q0 {P : Nat} {src : ByteArray} {T : List Tok} {R : Nat → Prop} {s : PS} {w : World} (h : Red w P src T R s) {x : List UInt8} (hx : x = nextR T (signsL 0) s) : Calls Tryz.prog 104 #[.pointer (some ⟨P, 0, none⟩), .int .i64 0] w fun e w' => e = .returned (.string (ofL x)) ∧ Keeps (fun _ => False) w w' :=
  rnext_any h 0 (by omega) hx
set_option maxRecDepth 100000 in
set_option maxHeartbeats 16000000 in
theorem rchain0_any {P : Nat} {src : ByteArray} {T : List Tok} {N : Nat} {sub : PM Int} (hsz : src.size ≤ 1000) (SUB : RchC P src T 1 sub) : RchC P src T 0 (do
    let ln ← ask (lineS src.data.toList T)
    let x ← sub
    rchainR T 0 sub ln N x) := by
  intro s r s' R w h hp
  have HP0 := Lib.hid hp
  have HF0 := Lib.hid (Fr.refl R w)
  have HLO := Lib.hid hp.lo
  have HM := Lib.hid h
  clear h hp
  go_enter Tryz.func95, Tryz.ntmps95
  obtain ⟨ln, hln, h⟩ := ask_out HM.out
  have LC := Lib.hid (rline_q hsz HP0.out hln)
  replace HM := Lib.hid h
  clear h hln
  go_wp2_with fail
  refine LC.out.mono ?_
  rintro e w1 ⟨rfl, k1⟩
  have HP1 := Lib.hid (HP0.out.keep k1)
  have HF1 := Lib.hid (HF0.out.keeps k1)
  clear HP0 HF0 LC k1 
  obtain ⟨x0, s2, hm, h⟩ := bind_out HM.out
  have NC := Lib.hid (SUB _ _ _ _ _ hm HP1.out)
  replace HM := Lib.hid h
  clear h hm
  go_wp2_with fail
  refine NC.out.mono ?_
  rintro e w3 ⟨rfl, R4, hp, hf⟩
  have HP2 := Lib.hid hp
  have HF2 := Lib.hid (HF1.out.trans hf)
  clear HP1 HF1 hp hf NC 
  go_wp2_with fail
  go_loopg [6, 7, 8] N (fun k s6 s7 s8 wr => ∃ (x : Int) (sk : PS) (Rk : Nat → Prop), s6 = .int .i64 x ∧ rchainR T 0 sub ln k x sk = some (r, s') ∧ Red wr P src T Rk sk ∧ Fr R w Rk wr)
  case atStart => exact ⟨x0, _, _, rfl, HM.out, HP2.out, HF2.out⟩
  case round =>
    obtain ⟨x, sk, Rk, rfl, hm, hp, hf⟩ := hrel
    clear HP2 HF2 HM
    cases gk with
    | zero =>
      have h0 : (none : Option (Int × PS)) = some (r, s') := hm
      cases h0
    | succ k =>
      unfold rchainR at hm
      have HP0 := Lib.hid hp
      have HF0 := Lib.hid hf
      have HM := Lib.hid hm
      clear hp hf hm
      obtain ⟨gx, hgx, h⟩ := ask_out HM.out
      have IC := Lib.hid (rnext_q0 HP0.out hgx)
      replace HM := Lib.hid h
      clear h hgx
      have hq : ((ofL gx).toList == []) = decide (gx = []) := by rw [word_beq, ofL_list]
      by_cases hg0 : gx = []
      · have h := HM.out
        rw [if_pos hg0] at h
        replace HM := Lib.hid h
        clear h
        rw [decide_eq_true hg0] at hq
        clear hg0
        go_wp2_with fail
        refine IC.out.mono ?_
        rintro e w5 ⟨rfl, k1⟩
        have HP1 := Lib.hid (HP0.out.keep k1)
        have HF1 := Lib.hid (HF0.out.keeps k1)
        clear HP0 HF0 IC k1 
        obtain ⟨q1, q2⟩ := pure_end HM.out
        subst q1
        subst q2
        go_wp2_with fail
        go_ret
        exact ⟨rfl, _, HP1.out, HF1.out⟩
      · have h := HM.out
        rw [if_neg hg0] at h
        replace HM := Lib.hid h
        clear h
        rw [decide_eq_false hg0] at hq
        clear hg0
        go_wp2_with fail
        refine IC.out.mono ?_
        rintro e w6 ⟨rfl, k1⟩
        have HP1 := Lib.hid (HP0.out.keep k1)
        have HF1 := Lib.hid (HF0.out.keeps k1)
        clear HP0 HF0 IC k1 
        go_upto_region 8 with fail
        clear hq
        obtain ⟨u, s7, hm, h⟩ := bind_out HM.out
        obtain ⟨hi, e1⟩ := go_out hm
        replace HM := Lib.hid h
        obtain ⟨ew, c2, f2, hp, hf⟩ := HP1.out.stepAt hi
        have HP2 : Hid (Red (w6.setCell ⟨P, 2, none⟩ (.int .i64 ((sk.i : Int) + 1))) P src T Rk s7) := Lib.hid (by rw [e1]; exact hp)
        have HF2 := Lib.hid (HF1.out.trans hf)
        clear h hm e1 hi hp hf HP1 HF1
        generalize (sk.i : Int) = ii at *
        go_upto_region 9 with fail
        generalize w6.setCell ⟨P, 2, none⟩ (.int .i64 (ii + 1)) = w8 at *
        clear c2 f2 ew
        obtain ⟨y, s9, hm, h⟩ := bind_out HM.out
        have NC := Lib.hid (SUB _ _ _ _ _ hm HP2.out)
        replace HM := Lib.hid h
        clear h hm
        go_wp2_with fail
        refine NC.out.mono ?_
        rintro e w10 ⟨rfl, R11, hp, hf⟩
        have HP3 := Lib.hid hp
        have HF3 := Lib.hid (HF2.out.trans hf)
        clear HP2 HF2 hp hf NC 
        obtain ⟨z, s12, hm, h⟩ := bind_out HM.out
        have HPUT := Lib.hid hm
        replace HM := Lib.hid h
        clear h hm
        have NC := Lib.hid ((putC P src T).two HP3.out (9) (ln) (0) (gx) x y HPUT.out)
        go_wp2_with fail
        refine NC.out.mono ?_
        rintro e w13 ⟨rfl, R14, hp, hf⟩
        have HP4 := Lib.hid hp
        have HF4 := Lib.hid (HF3.out.trans hf)
        clear HP3 HF3 hp hf NC HPUT
        have h := HM.out
        rw [if_neg (by decide)] at h
        replace HM := Lib.hid h
        clear h
        go_wp2_with fail
        go_roundg k
        case measure => omega
        case rel => exact ⟨z, _, _, rfl, HM.out, HP4.out, HF4.out⟩


theorem rnext_q1 {P : Nat} {src : ByteArray} {T : List Tok} {R : Nat → Prop} {s : PS} {w : World} (h : Red w P src T R s) {x : List UInt8} (hx : x = nextR T (signsL 1) s) : Calls Tryz.prog 104 #[.pointer (some ⟨P, 0, none⟩), .int .i64 1] w fun e w' => e = .returned (.string (ofL x)) ∧ Keeps (fun _ => False) w w' :=
  rnext_any h 1 (by omega) hx
set_option maxRecDepth 100000 in
set_option maxHeartbeats 16000000 in
theorem rchain1_any {P : Nat} {src : ByteArray} {T : List Tok} {N : Nat} {sub : PM Int} (hsz : src.size ≤ 1000) (SUB : RchC P src T 2 sub) : RchC P src T 1 (do
    let ln ← ask (lineS src.data.toList T)
    let x ← sub
    rchainR T 1 sub ln N x) := by
  intro s r s' R w h hp
  have HP0 := Lib.hid hp
  have HF0 := Lib.hid (Fr.refl R w)
  have HLO := Lib.hid hp.lo
  have HM := Lib.hid h
  clear h hp
  go_enter Tryz.func95, Tryz.ntmps95
  obtain ⟨ln, hln, h⟩ := ask_out HM.out
  have LC := Lib.hid (rline_q hsz HP0.out hln)
  replace HM := Lib.hid h
  clear h hln
  go_wp2_with fail
  refine LC.out.mono ?_
  rintro e w1 ⟨rfl, k1⟩
  have HP1 := Lib.hid (HP0.out.keep k1)
  have HF1 := Lib.hid (HF0.out.keeps k1)
  clear HP0 HF0 LC k1 
  obtain ⟨x0, s2, hm, h⟩ := bind_out HM.out
  have NC := Lib.hid (SUB _ _ _ _ _ hm HP1.out)
  replace HM := Lib.hid h
  clear h hm
  go_wp2_with fail
  refine NC.out.mono ?_
  rintro e w3 ⟨rfl, R4, hp, hf⟩
  have HP2 := Lib.hid hp
  have HF2 := Lib.hid (HF1.out.trans hf)
  clear HP1 HF1 hp hf NC 
  go_wp2_with fail
  go_loopg [6, 7, 8] N (fun k s6 s7 s8 wr => ∃ (x : Int) (sk : PS) (Rk : Nat → Prop), s6 = .int .i64 x ∧ rchainR T 1 sub ln k x sk = some (r, s') ∧ Red wr P src T Rk sk ∧ Fr R w Rk wr)
  case atStart => exact ⟨x0, _, _, rfl, HM.out, HP2.out, HF2.out⟩
  case round =>
    obtain ⟨x, sk, Rk, rfl, hm, hp, hf⟩ := hrel
    clear HP2 HF2 HM
    cases gk with
    | zero =>
      have h0 : (none : Option (Int × PS)) = some (r, s') := hm
      cases h0
    | succ k =>
      unfold rchainR at hm
      have HP0 := Lib.hid hp
      have HF0 := Lib.hid hf
      have HM := Lib.hid hm
      clear hp hf hm
      obtain ⟨gx, hgx, h⟩ := ask_out HM.out
      have IC := Lib.hid (rnext_q1 HP0.out hgx)
      replace HM := Lib.hid h
      clear h hgx
      have hq : ((ofL gx).toList == []) = decide (gx = []) := by rw [word_beq, ofL_list]
      by_cases hg0 : gx = []
      · have h := HM.out
        rw [if_pos hg0] at h
        replace HM := Lib.hid h
        clear h
        rw [decide_eq_true hg0] at hq
        clear hg0
        go_wp2_with fail
        refine IC.out.mono ?_
        rintro e w5 ⟨rfl, k1⟩
        have HP1 := Lib.hid (HP0.out.keep k1)
        have HF1 := Lib.hid (HF0.out.keeps k1)
        clear HP0 HF0 IC k1 
        obtain ⟨q1, q2⟩ := pure_end HM.out
        subst q1
        subst q2
        go_wp2_with fail
        go_ret
        exact ⟨rfl, _, HP1.out, HF1.out⟩
      · have h := HM.out
        rw [if_neg hg0] at h
        replace HM := Lib.hid h
        clear h
        rw [decide_eq_false hg0] at hq
        clear hg0
        go_wp2_with fail
        refine IC.out.mono ?_
        rintro e w6 ⟨rfl, k1⟩
        have HP1 := Lib.hid (HP0.out.keep k1)
        have HF1 := Lib.hid (HF0.out.keeps k1)
        clear HP0 HF0 IC k1 
        go_upto_region 8 with fail
        clear hq
        obtain ⟨u, s7, hm, h⟩ := bind_out HM.out
        obtain ⟨hi, e1⟩ := go_out hm
        replace HM := Lib.hid h
        obtain ⟨ew, c2, f2, hp, hf⟩ := HP1.out.stepAt hi
        have HP2 : Hid (Red (w6.setCell ⟨P, 2, none⟩ (.int .i64 ((sk.i : Int) + 1))) P src T Rk s7) := Lib.hid (by rw [e1]; exact hp)
        have HF2 := Lib.hid (HF1.out.trans hf)
        clear h hm e1 hi hp hf HP1 HF1
        generalize (sk.i : Int) = ii at *
        go_upto_region 9 with fail
        generalize w6.setCell ⟨P, 2, none⟩ (.int .i64 (ii + 1)) = w8 at *
        clear c2 f2 ew
        obtain ⟨y, s9, hm, h⟩ := bind_out HM.out
        have NC := Lib.hid (SUB _ _ _ _ _ hm HP2.out)
        replace HM := Lib.hid h
        clear h hm
        go_wp2_with fail
        refine NC.out.mono ?_
        rintro e w10 ⟨rfl, R11, hp, hf⟩
        have HP3 := Lib.hid hp
        have HF3 := Lib.hid (HF2.out.trans hf)
        clear HP2 HF2 hp hf NC 
        obtain ⟨z, s12, hm, h⟩ := bind_out HM.out
        have HPUT := Lib.hid hm
        replace HM := Lib.hid h
        clear h hm
        have NC := Lib.hid ((putC P src T).two HP3.out (9) (ln) (0) (gx) x y HPUT.out)
        go_wp2_with fail
        refine NC.out.mono ?_
        rintro e w13 ⟨rfl, R14, hp, hf⟩
        have HP4 := Lib.hid hp
        have HF4 := Lib.hid (HF3.out.trans hf)
        clear HP3 HF3 hp hf NC HPUT
        have h := HM.out
        rw [if_neg (by decide)] at h
        replace HM := Lib.hid h
        clear h
        go_wp2_with fail
        go_roundg k
        case measure => omega
        case rel => exact ⟨z, _, _, rfl, HM.out, HP4.out, HF4.out⟩


theorem rnext_q2 {P : Nat} {src : ByteArray} {T : List Tok} {R : Nat → Prop} {s : PS} {w : World} (h : Red w P src T R s) {x : List UInt8} (hx : x = nextR T (signsL 2) s) : Calls Tryz.prog 104 #[.pointer (some ⟨P, 0, none⟩), .int .i64 2] w fun e w' => e = .returned (.string (ofL x)) ∧ Keeps (fun _ => False) w w' :=
  rnext_any h 2 (by omega) hx
set_option maxRecDepth 100000 in
set_option maxHeartbeats 16000000 in
theorem rchain2_any {P : Nat} {src : ByteArray} {T : List Tok} {N : Nat} {sub : PM Int} (hsz : src.size ≤ 1000) (SUB : RchC P src T 3 sub) : RchC P src T 2 (do
    let ln ← ask (lineS src.data.toList T)
    let x ← sub
    rchainR T 2 sub ln N x) := by
  intro s r s' R w h hp
  have HP0 := Lib.hid hp
  have HF0 := Lib.hid (Fr.refl R w)
  have HLO := Lib.hid hp.lo
  have HM := Lib.hid h
  clear h hp
  go_enter Tryz.func95, Tryz.ntmps95
  obtain ⟨ln, hln, h⟩ := ask_out HM.out
  have LC := Lib.hid (rline_q hsz HP0.out hln)
  replace HM := Lib.hid h
  clear h hln
  go_wp2_with fail
  refine LC.out.mono ?_
  rintro e w1 ⟨rfl, k1⟩
  have HP1 := Lib.hid (HP0.out.keep k1)
  have HF1 := Lib.hid (HF0.out.keeps k1)
  clear HP0 HF0 LC k1 
  obtain ⟨x0, s2, hm, h⟩ := bind_out HM.out
  have NC := Lib.hid (SUB _ _ _ _ _ hm HP1.out)
  replace HM := Lib.hid h
  clear h hm
  go_wp2_with fail
  refine NC.out.mono ?_
  rintro e w3 ⟨rfl, R4, hp, hf⟩
  have HP2 := Lib.hid hp
  have HF2 := Lib.hid (HF1.out.trans hf)
  clear HP1 HF1 hp hf NC 
  go_wp2_with fail
  go_loopg [6, 7, 8] N (fun k s6 s7 s8 wr => ∃ (x : Int) (sk : PS) (Rk : Nat → Prop), s6 = .int .i64 x ∧ rchainR T 2 sub ln k x sk = some (r, s') ∧ Red wr P src T Rk sk ∧ Fr R w Rk wr)
  case atStart => exact ⟨x0, _, _, rfl, HM.out, HP2.out, HF2.out⟩
  case round =>
    obtain ⟨x, sk, Rk, rfl, hm, hp, hf⟩ := hrel
    clear HP2 HF2 HM
    cases gk with
    | zero =>
      have h0 : (none : Option (Int × PS)) = some (r, s') := hm
      cases h0
    | succ k =>
      unfold rchainR at hm
      have HP0 := Lib.hid hp
      have HF0 := Lib.hid hf
      have HM := Lib.hid hm
      clear hp hf hm
      obtain ⟨gx, hgx, h⟩ := ask_out HM.out
      have IC := Lib.hid (rnext_q2 HP0.out hgx)
      replace HM := Lib.hid h
      clear h hgx
      have hq : ((ofL gx).toList == []) = decide (gx = []) := by rw [word_beq, ofL_list]
      by_cases hg0 : gx = []
      · have h := HM.out
        rw [if_pos hg0] at h
        replace HM := Lib.hid h
        clear h
        rw [decide_eq_true hg0] at hq
        clear hg0
        go_wp2_with fail
        refine IC.out.mono ?_
        rintro e w5 ⟨rfl, k1⟩
        have HP1 := Lib.hid (HP0.out.keep k1)
        have HF1 := Lib.hid (HF0.out.keeps k1)
        clear HP0 HF0 IC k1 
        obtain ⟨q1, q2⟩ := pure_end HM.out
        subst q1
        subst q2
        go_wp2_with fail
        go_ret
        exact ⟨rfl, _, HP1.out, HF1.out⟩
      · have h := HM.out
        rw [if_neg hg0] at h
        replace HM := Lib.hid h
        clear h
        rw [decide_eq_false hg0] at hq
        clear hg0
        go_wp2_with fail
        refine IC.out.mono ?_
        rintro e w6 ⟨rfl, k1⟩
        have HP1 := Lib.hid (HP0.out.keep k1)
        have HF1 := Lib.hid (HF0.out.keeps k1)
        clear HP0 HF0 IC k1 
        go_upto_region 8 with fail
        clear hq
        obtain ⟨u, s7, hm, h⟩ := bind_out HM.out
        obtain ⟨hi, e1⟩ := go_out hm
        replace HM := Lib.hid h
        obtain ⟨ew, c2, f2, hp, hf⟩ := HP1.out.stepAt hi
        have HP2 : Hid (Red (w6.setCell ⟨P, 2, none⟩ (.int .i64 ((sk.i : Int) + 1))) P src T Rk s7) := Lib.hid (by rw [e1]; exact hp)
        have HF2 := Lib.hid (HF1.out.trans hf)
        clear h hm e1 hi hp hf HP1 HF1
        generalize (sk.i : Int) = ii at *
        go_upto_region 9 with fail
        generalize w6.setCell ⟨P, 2, none⟩ (.int .i64 (ii + 1)) = w8 at *
        clear c2 f2 ew
        obtain ⟨y, s9, hm, h⟩ := bind_out HM.out
        have NC := Lib.hid (SUB _ _ _ _ _ hm HP2.out)
        replace HM := Lib.hid h
        clear h hm
        go_wp2_with fail
        refine NC.out.mono ?_
        rintro e w10 ⟨rfl, R11, hp, hf⟩
        have HP3 := Lib.hid hp
        have HF3 := Lib.hid (HF2.out.trans hf)
        clear HP2 HF2 hp hf NC 
        obtain ⟨z, s12, hm, h⟩ := bind_out HM.out
        have HPUT := Lib.hid hm
        replace HM := Lib.hid h
        clear h hm
        have NC := Lib.hid ((putC P src T).two HP3.out (9) (ln) (0) (gx) x y HPUT.out)
        go_wp2_with fail
        refine NC.out.mono ?_
        rintro e w13 ⟨rfl, R14, hp, hf⟩
        have HP4 := Lib.hid hp
        have HF4 := Lib.hid (HF3.out.trans hf)
        clear HP3 HF3 hp hf NC HPUT
        have h := HM.out
        first | rw [if_pos trivial] at h | rw [if_pos rfl] at h
        replace HM := Lib.hid h
        clear h
        obtain ⟨q1, q2⟩ := pure_end HM.out
        subst q1
        subst q2
        go_wp2_with fail
        go_ret
        exact ⟨rfl, _, HP4.out, HF4.out⟩


theorem rnext_q3 {P : Nat} {src : ByteArray} {T : List Tok} {R : Nat → Prop} {s : PS} {w : World} (h : Red w P src T R s) {x : List UInt8} (hx : x = nextR T (signsL 3) s) : Calls Tryz.prog 104 #[.pointer (some ⟨P, 0, none⟩), .int .i64 3] w fun e w' => e = .returned (.string (ofL x)) ∧ Keeps (fun _ => False) w w' :=
  rnext_any h 3 (by omega) hx
set_option maxRecDepth 100000 in
set_option maxHeartbeats 16000000 in
theorem rchain3_any {P : Nat} {src : ByteArray} {T : List Tok} {N : Nat} {sub : PM Int} (hsz : src.size ≤ 1000) (SUB : RchC P src T 4 sub) : RchC P src T 3 (do
    let ln ← ask (lineS src.data.toList T)
    let x ← sub
    rchainR T 3 sub ln N x) := by
  intro s r s' R w h hp
  have HP0 := Lib.hid hp
  have HF0 := Lib.hid (Fr.refl R w)
  have HLO := Lib.hid hp.lo
  have HM := Lib.hid h
  clear h hp
  go_enter Tryz.func95, Tryz.ntmps95
  obtain ⟨ln, hln, h⟩ := ask_out HM.out
  have LC := Lib.hid (rline_q hsz HP0.out hln)
  replace HM := Lib.hid h
  clear h hln
  go_wp2_with fail
  refine LC.out.mono ?_
  rintro e w1 ⟨rfl, k1⟩
  have HP1 := Lib.hid (HP0.out.keep k1)
  have HF1 := Lib.hid (HF0.out.keeps k1)
  clear HP0 HF0 LC k1 
  obtain ⟨x0, s2, hm, h⟩ := bind_out HM.out
  have NC := Lib.hid (SUB _ _ _ _ _ hm HP1.out)
  replace HM := Lib.hid h
  clear h hm
  go_wp2_with fail
  refine NC.out.mono ?_
  rintro e w3 ⟨rfl, R4, hp, hf⟩
  have HP2 := Lib.hid hp
  have HF2 := Lib.hid (HF1.out.trans hf)
  clear HP1 HF1 hp hf NC 
  go_wp2_with fail
  go_loopg [6, 7, 8] N (fun k s6 s7 s8 wr => ∃ (x : Int) (sk : PS) (Rk : Nat → Prop), s6 = .int .i64 x ∧ rchainR T 3 sub ln k x sk = some (r, s') ∧ Red wr P src T Rk sk ∧ Fr R w Rk wr)
  case atStart => exact ⟨x0, _, _, rfl, HM.out, HP2.out, HF2.out⟩
  case round =>
    obtain ⟨x, sk, Rk, rfl, hm, hp, hf⟩ := hrel
    clear HP2 HF2 HM
    cases gk with
    | zero =>
      have h0 : (none : Option (Int × PS)) = some (r, s') := hm
      cases h0
    | succ k =>
      unfold rchainR at hm
      have HP0 := Lib.hid hp
      have HF0 := Lib.hid hf
      have HM := Lib.hid hm
      clear hp hf hm
      obtain ⟨gx, hgx, h⟩ := ask_out HM.out
      have IC := Lib.hid (rnext_q3 HP0.out hgx)
      replace HM := Lib.hid h
      clear h hgx
      have hq : ((ofL gx).toList == []) = decide (gx = []) := by rw [word_beq, ofL_list]
      by_cases hg0 : gx = []
      · have h := HM.out
        rw [if_pos hg0] at h
        replace HM := Lib.hid h
        clear h
        rw [decide_eq_true hg0] at hq
        clear hg0
        go_wp2_with fail
        refine IC.out.mono ?_
        rintro e w5 ⟨rfl, k1⟩
        have HP1 := Lib.hid (HP0.out.keep k1)
        have HF1 := Lib.hid (HF0.out.keeps k1)
        clear HP0 HF0 IC k1 
        obtain ⟨q1, q2⟩ := pure_end HM.out
        subst q1
        subst q2
        go_wp2_with fail
        go_ret
        exact ⟨rfl, _, HP1.out, HF1.out⟩
      · have h := HM.out
        rw [if_neg hg0] at h
        replace HM := Lib.hid h
        clear h
        rw [decide_eq_false hg0] at hq
        clear hg0
        go_wp2_with fail
        refine IC.out.mono ?_
        rintro e w6 ⟨rfl, k1⟩
        have HP1 := Lib.hid (HP0.out.keep k1)
        have HF1 := Lib.hid (HF0.out.keeps k1)
        clear HP0 HF0 IC k1 
        go_upto_region 8 with fail
        clear hq
        obtain ⟨u, s7, hm, h⟩ := bind_out HM.out
        obtain ⟨hi, e1⟩ := go_out hm
        replace HM := Lib.hid h
        obtain ⟨ew, c2, f2, hp, hf⟩ := HP1.out.stepAt hi
        have HP2 : Hid (Red (w6.setCell ⟨P, 2, none⟩ (.int .i64 ((sk.i : Int) + 1))) P src T Rk s7) := Lib.hid (by rw [e1]; exact hp)
        have HF2 := Lib.hid (HF1.out.trans hf)
        clear h hm e1 hi hp hf HP1 HF1
        generalize (sk.i : Int) = ii at *
        go_upto_region 9 with fail
        generalize w6.setCell ⟨P, 2, none⟩ (.int .i64 (ii + 1)) = w8 at *
        clear c2 f2 ew
        obtain ⟨y, s9, hm, h⟩ := bind_out HM.out
        have NC := Lib.hid (SUB _ _ _ _ _ hm HP2.out)
        replace HM := Lib.hid h
        clear h hm
        go_wp2_with fail
        refine NC.out.mono ?_
        rintro e w10 ⟨rfl, R11, hp, hf⟩
        have HP3 := Lib.hid hp
        have HF3 := Lib.hid (HF2.out.trans hf)
        clear HP2 HF2 hp hf NC 
        obtain ⟨z, s12, hm, h⟩ := bind_out HM.out
        have HPUT := Lib.hid hm
        replace HM := Lib.hid h
        clear h hm
        have NC := Lib.hid ((putC P src T).two HP3.out (9) (ln) (0) (gx) x y HPUT.out)
        go_wp2_with fail
        refine NC.out.mono ?_
        rintro e w13 ⟨rfl, R14, hp, hf⟩
        have HP4 := Lib.hid hp
        have HF4 := Lib.hid (HF3.out.trans hf)
        clear HP3 HF3 hp hf NC HPUT
        have h := HM.out
        rw [if_neg (by decide)] at h
        replace HM := Lib.hid h
        clear h
        go_wp2_with fail
        go_roundg k
        case measure => omega
        case rel => exact ⟨z, _, _, rfl, HM.out, HP4.out, HF4.out⟩


theorem rnext_q4 {P : Nat} {src : ByteArray} {T : List Tok} {R : Nat → Prop} {s : PS} {w : World} (h : Red w P src T R s) {x : List UInt8} (hx : x = nextR T (signsL 4) s) : Calls Tryz.prog 104 #[.pointer (some ⟨P, 0, none⟩), .int .i64 4] w fun e w' => e = .returned (.string (ofL x)) ∧ Keeps (fun _ => False) w w' :=
  rnext_any h 4 (by omega) hx
set_option maxRecDepth 100000 in
set_option maxHeartbeats 16000000 in
theorem rchain4_any {P : Nat} {src : ByteArray} {T : List Tok} {N : Nat} {sub : PM Int} (hsz : src.size ≤ 1000) (SUB : RchC P src T 5 sub) : RchC P src T 4 (do
    let ln ← ask (lineS src.data.toList T)
    let x ← sub
    rchainR T 4 sub ln N x) := by
  intro s r s' R w h hp
  have HP0 := Lib.hid hp
  have HF0 := Lib.hid (Fr.refl R w)
  have HLO := Lib.hid hp.lo
  have HM := Lib.hid h
  clear h hp
  go_enter Tryz.func95, Tryz.ntmps95
  obtain ⟨ln, hln, h⟩ := ask_out HM.out
  have LC := Lib.hid (rline_q hsz HP0.out hln)
  replace HM := Lib.hid h
  clear h hln
  go_wp2_with fail
  refine LC.out.mono ?_
  rintro e w1 ⟨rfl, k1⟩
  have HP1 := Lib.hid (HP0.out.keep k1)
  have HF1 := Lib.hid (HF0.out.keeps k1)
  clear HP0 HF0 LC k1 
  obtain ⟨x0, s2, hm, h⟩ := bind_out HM.out
  have NC := Lib.hid (SUB _ _ _ _ _ hm HP1.out)
  replace HM := Lib.hid h
  clear h hm
  go_wp2_with fail
  refine NC.out.mono ?_
  rintro e w3 ⟨rfl, R4, hp, hf⟩
  have HP2 := Lib.hid hp
  have HF2 := Lib.hid (HF1.out.trans hf)
  clear HP1 HF1 hp hf NC 
  go_wp2_with fail
  go_loopg [6, 7, 8] N (fun k s6 s7 s8 wr => ∃ (x : Int) (sk : PS) (Rk : Nat → Prop), s6 = .int .i64 x ∧ rchainR T 4 sub ln k x sk = some (r, s') ∧ Red wr P src T Rk sk ∧ Fr R w Rk wr)
  case atStart => exact ⟨x0, _, _, rfl, HM.out, HP2.out, HF2.out⟩
  case round =>
    obtain ⟨x, sk, Rk, rfl, hm, hp, hf⟩ := hrel
    clear HP2 HF2 HM
    cases gk with
    | zero =>
      have h0 : (none : Option (Int × PS)) = some (r, s') := hm
      cases h0
    | succ k =>
      unfold rchainR at hm
      have HP0 := Lib.hid hp
      have HF0 := Lib.hid hf
      have HM := Lib.hid hm
      clear hp hf hm
      obtain ⟨gx, hgx, h⟩ := ask_out HM.out
      have IC := Lib.hid (rnext_q4 HP0.out hgx)
      replace HM := Lib.hid h
      clear h hgx
      have hq : ((ofL gx).toList == []) = decide (gx = []) := by rw [word_beq, ofL_list]
      by_cases hg0 : gx = []
      · have h := HM.out
        rw [if_pos hg0] at h
        replace HM := Lib.hid h
        clear h
        rw [decide_eq_true hg0] at hq
        clear hg0
        go_wp2_with fail
        refine IC.out.mono ?_
        rintro e w5 ⟨rfl, k1⟩
        have HP1 := Lib.hid (HP0.out.keep k1)
        have HF1 := Lib.hid (HF0.out.keeps k1)
        clear HP0 HF0 IC k1 
        obtain ⟨q1, q2⟩ := pure_end HM.out
        subst q1
        subst q2
        go_wp2_with fail
        go_ret
        exact ⟨rfl, _, HP1.out, HF1.out⟩
      · have h := HM.out
        rw [if_neg hg0] at h
        replace HM := Lib.hid h
        clear h
        rw [decide_eq_false hg0] at hq
        clear hg0
        go_wp2_with fail
        refine IC.out.mono ?_
        rintro e w6 ⟨rfl, k1⟩
        have HP1 := Lib.hid (HP0.out.keep k1)
        have HF1 := Lib.hid (HF0.out.keeps k1)
        clear HP0 HF0 IC k1 
        go_upto_region 8 with fail
        clear hq
        obtain ⟨u, s7, hm, h⟩ := bind_out HM.out
        obtain ⟨hi, e1⟩ := go_out hm
        replace HM := Lib.hid h
        obtain ⟨ew, c2, f2, hp, hf⟩ := HP1.out.stepAt hi
        have HP2 : Hid (Red (w6.setCell ⟨P, 2, none⟩ (.int .i64 ((sk.i : Int) + 1))) P src T Rk s7) := Lib.hid (by rw [e1]; exact hp)
        have HF2 := Lib.hid (HF1.out.trans hf)
        clear h hm e1 hi hp hf HP1 HF1
        generalize (sk.i : Int) = ii at *
        go_upto_region 9 with fail
        generalize w6.setCell ⟨P, 2, none⟩ (.int .i64 (ii + 1)) = w8 at *
        clear c2 f2 ew
        obtain ⟨y, s9, hm, h⟩ := bind_out HM.out
        have NC := Lib.hid (SUB _ _ _ _ _ hm HP2.out)
        replace HM := Lib.hid h
        clear h hm
        go_wp2_with fail
        refine NC.out.mono ?_
        rintro e w10 ⟨rfl, R11, hp, hf⟩
        have HP3 := Lib.hid hp
        have HF3 := Lib.hid (HF2.out.trans hf)
        clear HP2 HF2 hp hf NC 
        obtain ⟨z, s12, hm, h⟩ := bind_out HM.out
        have HPUT := Lib.hid hm
        replace HM := Lib.hid h
        clear h hm
        have NC := Lib.hid ((putC P src T).two HP3.out (9) (ln) (0) (gx) x y HPUT.out)
        go_wp2_with fail
        refine NC.out.mono ?_
        rintro e w13 ⟨rfl, R14, hp, hf⟩
        have HP4 := Lib.hid hp
        have HF4 := Lib.hid (HF3.out.trans hf)
        clear HP3 HF3 hp hf NC HPUT
        have h := HM.out
        rw [if_neg (by decide)] at h
        replace HM := Lib.hid h
        clear h
        go_wp2_with fail
        go_roundg k
        case measure => omega
        case rel => exact ⟨z, _, _, rfl, HM.out, HP4.out, HF4.out⟩

set_option maxRecDepth 100000 in
set_option maxHeartbeats 16000000 in
theorem rchain5_any {P : Nat} {src : ByteArray} {T : List Tok} {fac : PM Int} (FAC : RexC P src T 103 fac) : RchC P src T 5 fac := by
  intro s r s' R w h hp
  have HP0 := Lib.hid hp
  have HF0 := Lib.hid (Fr.refl R w)
  have HLO := Lib.hid hp.lo
  have HM := Lib.hid h
  clear h hp
  go_enter Tryz.func95, Tryz.ntmps95
  have NC := Lib.hid (FAC _ _ _ _ _ HM.out HP0.out)
  go_wp2_with fail
  refine NC.out.mono ?_
  rintro e w1 ⟨rfl, R2, hp, hf⟩
  have HP1 := Lib.hid hp
  have HF1 := Lib.hid (HF0.out.trans hf)
  clear HP0 HF0 hp hf NC 
  go_wp2_with fail
  go_ret
  exact ⟨rfl, _, HP1.out, HF1.out⟩

set_option maxRecDepth 100000 in
set_option maxHeartbeats 16000000 in
theorem rexpr_any {P : Nat} {src : ByteArray} {T : List Tok} {ex : PM Int} (CH : RchC P src T 0 ex) : RexC P src T 85 ex := by
  intro s r s' R w h hp
  have HP0 := Lib.hid hp
  have HF0 := Lib.hid (Fr.refl R w)
  have HLO := Lib.hid hp.lo
  have HM := Lib.hid h
  clear h hp
  go_enter Tryz.func85, Tryz.ntmps85
  have NC := Lib.hid (CH _ _ _ _ _ HM.out HP0.out)
  go_wp2_with fail
  refine NC.out.mono ?_
  rintro e w1 ⟨rfl, R2, hp, hf⟩
  have HP1 := Lib.hid hp
  have HF1 := Lib.hid (HF0.out.trans hf)
  clear HP0 HF0 hp hf NC 
  go_wp2_with fail
  go_ret
  exact ⟨rfl, _, HP1.out, HF1.out⟩


/-- What the levels tell, so deep at most. -/
theorem rex_any {P : Nat} {src : ByteArray} {T : List Tok} (hsz : src.size ≤ 1000) (N : Nat) : (RexC P src T 103 (rexM src.data.toList T N 5) ∧ ∀ lv, lv ≤ 5 → RchC P src T (lv : Nat) (rexM src.data.toList T N lv)) := by
  induction N with
  | zero => exact ⟨fun s a s1 R w h => (by cases h), fun lv _ s a s1 R w h => (by cases h)⟩
  | succ n ih =>
    have fac : RexC P src T 103 (rexM src.data.toList T (n + 1) 5) := rfactor_any hsz (rexpr_any (ih.2 0 (by omega))) ih.1
    refine ⟨fac, fun lv hlv => ?_⟩
    match lv, hlv with
    | 0, _ => exact rchain0_any hsz (ih.2 1 (by omega))
    | 1, _ => exact rchain1_any hsz (ih.2 2 (by omega))
    | 2, _ => exact rchain2_any hsz (ih.2 3 (by omega))
    | 3, _ => exact rchain3_any hsz (ih.2 4 (by omega))
    | 4, _ => exact rchain4_any hsz (ih.2 5 (by omega))
    | 5, _ => exact rchain5_any fac

end Go.Proofs.YtgelggdgbmldiaaGreatDoor

namespace Go.Proofs.YtgelggdgbmldiaaGreatDoor
open Go Go.RowKit Go.Shelf
set_option linter.unusedVariables false
set_option linter.unusedSimpArgs false

theorem open_at {P : Nat} {src : ByteArray} {T : List Tok} {R : Nat → Prop} {s s1 : PS} {w : World} (h : Par w P src T R s) (x : List UInt8) {u : Unit} (hm : openM T x s = some (u, s1)) : Calls Tryz.prog 59 #[.pointer (some ⟨P, 0, none⟩), .string (ofL x)] w (Post P src T R w (.tuple #[]) s1) :=
  open_any h (ofL x) (by rw [ofL_list]; exact hm)

set_option maxRecDepth 100000 in
set_option maxHeartbeats 16000000 in
theorem factor_any {P : Nat} {src : ByteArray} {T : List Tok} {fac ex : PM Int} (hsz : src.size ≤ 1000) (EX : ExC P src T 78 ex) (FAC : ExC P src T 102 fac) : ExC P src T 102 (factorM src.data.toList T fac ex) := by
  intro s r s' R w h hp
  have HP0 := Lib.hid hp
  have HF0 := Lib.hid (Fr.refl R w)
  have HLO := Lib.hid hp.lo
  have HM := Lib.hid h
  clear h hp
  go_enter Tryz.func102, Tryz.ntmps102
  obtain ⟨ln, hln, h⟩ := ask_out HM.out
  have LC := Lib.hid (line_at hsz HP0.out hln)
  replace HM := Lib.hid h
  clear h hln
  go_wp2_with fail
  refine LC.out.mono ?_
  rintro e w1 ⟨rfl, k1⟩
  have HP1 := Lib.hid (HP0.out.keep k1)
  have HF1 := Lib.hid (HF0.out.keeps k1)
  clear HP0 HF0 LC k1 
  go_upto_region 2 with fail
  have ka := Keeps.one w1 (.cells #[.int .i64 7, .int .i64 ln, .int .i64 0, .string { data := #[] }, .slice none 0 0] 42)
  obtain ⟨X, hX⟩ : ∃ X, X = w1.heap.size := ⟨_, rfl⟩
  obtain ⟨w2, hw⟩ : ∃ w2, w2 = w1.alloc (.cells #[.int .i64 7, .int .i64 ln, .int .i64 0, .string { data := #[] }, .slice none 0 0] 42) := ⟨_, rfl⟩
  have HXX2 : Hid (Loc w2 R X [.int .i64 7, .int .i64 ln, .int .i64 0, .string (ofL []), .slice none 0 0]) := Lib.hid (by rw [hw, hX]; exact Loc.new HP1.out.new [.int .i64 7, .int .i64 ln, .int .i64 0, .string (ofL []), .slice none 0 0] 42)
  have HWX : Hid (w.heap.size ≤ X) := Lib.hid (by rw [hX]; exact HF1.out.1.size)
  rw [← hX]
  rw [← hw] at ka ⊢
  have HP2 := Lib.hid (HP1.out.keep ka)
  have HF2 := Lib.hid (HF1.out.keeps ka)
  clear HP1 HF1 ka hw hX
  obtain ⟨tk, ht, h⟩ := ask_out HM.out
  have NC := Lib.hid (now_at HP2.out ht)
  have F1 : ∀ w, Sem.run Tryz.prog (Instr.field 38 (.agg #[.int .i64 (tk.k : Int), .string (ofL tk.x), .int .i64 (tk.p : Int)]) 1) w = .ok (.string (ofL tk.x)) w := fun w => tok_field1 _ _ _ w
  replace HM := Lib.hid h
  clear h ht
  go_wp2_with fail
  refine NC.out.mono ?_
  rintro e w3 ⟨rfl, k1⟩
  have HP3 := Lib.hid (HP2.out.keep k1)
  have HF3 := Lib.hid (HF2.out.keeps k1)
  have HXX3 := Lib.hid (HXX2.out.keeps k1)
  clear HP2 HF2 HXX2 NC k1 
  obtain ⟨b, hb, h⟩ := ask_out HM.out
  have IC := Lib.hid (is_at1 HP3.out ({ data := #[33] }) hb)
  replace HM := Lib.hid h
  clear h hb
  cases b with
  | true =>
    have h := HM.out
    rw [if_pos rfl] at h
    replace HM := Lib.hid h
    clear h
    go_wp2_with fail
    refine IC.out.mono ?_
    rintro e w4 ⟨rfl, k1⟩
    have HP4 := Lib.hid (HP3.out.keep k1)
    have HF4 := Lib.hid (HF3.out.keeps k1)
    have HXX4 := Lib.hid (HXX3.out.keeps k1)
    clear HP3 HF3 HXX3 IC k1 
    have zX0 := HXX4.out.cells 0 _ rfl
    have gX0 := HXX4.out.fz 0
    go_upto_region 7 with fail
    clear zX0 gX0
    obtain ⟨w5, hw⟩ : ∃ w5, w5 = w4.setCell ⟨X, 0, none⟩ (.int .i64 8) := ⟨_, rfl⟩
    have HP5 := Lib.hid (HP4.out.local HXX4.out.out (Nat.lt_of_lt_of_le HLO.out HWX.out) 0 (.int .i64 8))
    have HF5 := Lib.hid (HF4.out.local HWX.out 0 (.int .i64 8))
    have HXX5 : Hid (Loc w5 R X [.int .i64 8, .int .i64 ln, .int .i64 0, .string (ofL []), .slice none 0 0]) := Lib.hid (by rw [hw]; exact HXX4.out.set 0 (.int .i64 8) (by simp))
    rw [← hw] at HP5 HF5 ⊢
    clear HP4 HF4 HXX4 hw
    obtain ⟨u, s6, hm, h⟩ := bind_out HM.out
    have NC := Lib.hid (open_at HP5.out tk.x hm)
    replace HM := Lib.hid h
    clear h hm
    go_wp2_with fail
    refine NC.out.mono ?_
    rintro e w7 ⟨rfl, R8, hp, hf⟩
    have HP6 := Lib.hid hp
    have HF6 := Lib.hid (HF5.out.trans hf)
    have HXX6 := Lib.hid (HXX5.out.keep hf)
    clear HP5 HF5 HXX5 hp hf NC 
    obtain ⟨x, s9, hm, h⟩ := bind_out HM.out
    have NC := Lib.hid (FAC _ _ _ _ _ hm HP6.out)
    replace HM := Lib.hid h
    clear h hm
    go_wp2_with fail
    refine NC.out.mono ?_
    rintro e w10 ⟨rfl, R11, hp, hf⟩
    have HP7 := Lib.hid hp
    have HF7 := Lib.hid (HF6.out.trans hf)
    have HXX7 := Lib.hid (HXX6.out.keep hf)
    clear HP6 HF6 HXX6 hp hf NC 
    obtain ⟨u, s12, hm, h⟩ := bind_out HM.out
    obtain ⟨hd, e1⟩ := deep_out hm
    replace HM := Lib.hid h
    have hs := HP7.out.see
    have c6 := hs.c6
    have f6 := hs.fz 6
    have hw := IntWalk.i64_in (s9.dp - 1) (by omega)
    have hset := HP7.out.setDp (s9.dp - 1)
    have HP8 : Hid (Par (w10.setCell ⟨P, 6, none⟩ (.int .i64 (s9.dp - 1))) P src T R11 s12) := Lib.hid (by rw [e1]; exact hset.1)
    have HF8 := Lib.hid (HF7.out.trans hset.2)
    have HXX8 := Lib.hid (HXX7.out.keep hset.2)
    clear h hm e1 hs hset HP7 HF7 HXX7
    generalize s9.dp = dp at *
    go_upto_region 10 with fail
    generalize w10.setCell ⟨P, 6, none⟩ (.int .i64 (dp - 1)) = w13 at *
    clear c6 f6 hw hd
    have NC := Lib.hid ((nodeC P src T).one HP8.out (8) (ln) (0) ([]) x HM.out)
    have zX0 := HXX8.out.cells 0 _ rfl
    have zX1 := HXX8.out.cells 1 _ rfl
    have zX2 := HXX8.out.cells 2 _ rfl
    have zX3 := HXX8.out.cells 3 _ rfl
    have zX4 := HXX8.out.cells 4 _ rfl
    go_wp2_with fail
    refine NC.out.mono ?_
    rintro e w14 ⟨rfl, R15, hp, hf⟩
    have HP9 := Lib.hid hp
    have HF9 := Lib.hid (HF8.out.trans hf)
    have HXX9 := Lib.hid (HXX8.out.keep hf)
    clear HP8 HF8 HXX8 hp hf NC zX0 zX1 zX2 zX3 zX4
    go_wp2_with fail
    go_ret
    exact ⟨rfl, _, HP9.out, HF9.out⟩
  | false =>
    have h := HM.out
    rw [if_neg (by decide)] at h
    replace HM := Lib.hid h
    clear h
    go_wp2_with fail
    refine IC.out.mono ?_
    rintro e w16 ⟨rfl, k1⟩
    have HP4 := Lib.hid (HP3.out.keep k1)
    have HF4 := Lib.hid (HF3.out.keeps k1)
    have HXX4 := Lib.hid (HXX3.out.keeps k1)
    clear HP3 HF3 HXX3 IC k1 
    obtain ⟨b, hb, h⟩ := ask_out HM.out
    have IC := Lib.hid (is_at1 HP4.out ({ data := #[45] }) hb)
    replace HM := Lib.hid h
    clear h hb
    cases b with
    | true =>
      have h := HM.out
      rw [if_pos rfl] at h
      replace HM := Lib.hid h
      clear h
      go_wp2_with fail
      refine IC.out.mono ?_
      rintro e w17 ⟨rfl, k1⟩
      have HP5 := Lib.hid (HP4.out.keep k1)
      have HF5 := Lib.hid (HF4.out.keeps k1)
      have HXX5 := Lib.hid (HXX4.out.keeps k1)
      clear HP4 HF4 HXX4 IC k1 
      obtain ⟨u, s18, hm, h⟩ := bind_out HM.out
      have NC := Lib.hid (open_at HP5.out tk.x hm)
      replace HM := Lib.hid h
      clear h hm
      go_wp2_with fail
      refine NC.out.mono ?_
      rintro e w19 ⟨rfl, R20, hp, hf⟩
      have HP6 := Lib.hid hp
      have HF6 := Lib.hid (HF5.out.trans hf)
      have HXX6 := Lib.hid (HXX5.out.keep hf)
      clear HP5 HF5 HXX5 hp hf NC 
      obtain ⟨x, s21, hm, h⟩ := bind_out HM.out
      have NC := Lib.hid (FAC _ _ _ _ _ hm HP6.out)
      replace HM := Lib.hid h
      clear h hm
      go_wp2_with fail
      refine NC.out.mono ?_
      rintro e w22 ⟨rfl, R23, hp, hf⟩
      have HP7 := Lib.hid hp
      have HF7 := Lib.hid (HF6.out.trans hf)
      have HXX7 := Lib.hid (HXX6.out.keep hf)
      clear HP6 HF6 HXX6 hp hf NC 
      obtain ⟨u, s24, hm, h⟩ := bind_out HM.out
      obtain ⟨hd, e1⟩ := deep_out hm
      replace HM := Lib.hid h
      have hs := HP7.out.see
      have c6 := hs.c6
      have f6 := hs.fz 6
      have hw := IntWalk.i64_in (s21.dp - 1) (by omega)
      have hset := HP7.out.setDp (s21.dp - 1)
      have HP8 : Hid (Par (w22.setCell ⟨P, 6, none⟩ (.int .i64 (s21.dp - 1))) P src T R23 s24) := Lib.hid (by rw [e1]; exact hset.1)
      have HF8 := Lib.hid (HF7.out.trans hset.2)
      have HXX8 := Lib.hid (HXX7.out.keep hset.2)
      clear h hm e1 hs hset HP7 HF7 HXX7
      generalize s21.dp = dp at *
      go_upto_region 10 with fail
      generalize w22.setCell ⟨P, 6, none⟩ (.int .i64 (dp - 1)) = w25 at *
      clear c6 f6 hw hd
      have NC := Lib.hid ((nodeC P src T).one HP8.out (7) (ln) (0) ([]) x HM.out)
      have zX0 := HXX8.out.cells 0 _ rfl
      have zX1 := HXX8.out.cells 1 _ rfl
      have zX2 := HXX8.out.cells 2 _ rfl
      have zX3 := HXX8.out.cells 3 _ rfl
      have zX4 := HXX8.out.cells 4 _ rfl
      go_wp2_with fail
      refine NC.out.mono ?_
      rintro e w26 ⟨rfl, R27, hp, hf⟩
      have HP9 := Lib.hid hp
      have HF9 := Lib.hid (HF8.out.trans hf)
      have HXX9 := Lib.hid (HXX8.out.keep hf)
      clear HP8 HF8 HXX8 hp hf NC zX0 zX1 zX2 zX3 zX4
      go_wp2_with fail
      go_ret
      exact ⟨rfl, _, HP9.out, HF9.out⟩
    | false =>
      have h := HM.out
      rw [if_neg (by decide)] at h
      replace HM := Lib.hid h
      clear h
      go_wp2_with fail
      refine IC.out.mono ?_
      rintro e w28 ⟨rfl, k1⟩
      have HP5 := Lib.hid (HP4.out.keep k1)
      have HF5 := Lib.hid (HF4.out.keeps k1)
      have HXX5 := Lib.hid (HXX4.out.keeps k1)
      clear HP4 HF4 HXX4 IC k1 
      have NC := Lib.hid ((atom_any hsz EX) _ _ _ _ _ HM.out HP5.out)
      go_wp2_with fail
      refine NC.out.mono ?_
      rintro e w29 ⟨rfl, R30, hp, hf⟩
      have HP6 := Lib.hid hp
      have HF6 := Lib.hid (HF5.out.trans hf)
      have HXX6 := Lib.hid (HXX5.out.keep hf)
      clear HP5 HF5 HXX5 hp hf NC 
      go_wp2_with fail
      go_ret
      exact ⟨rfl, _, HP6.out, HF6.out⟩

set_option maxRecDepth 100000 in
set_option maxHeartbeats 16000000 in
theorem endedC (P : Nat) (src : ByteArray) (T : List Tok) : NodeC P src T 80 (endedM T) := by
  intro k ln n x l s s' r R w a0 m0 c0 a c h hp hr hn
  have HRD := Lib.hid hr
  have HNR := Lib.hid hn
  have HP0 := Lib.hid hp
  have HF0 := Lib.hid (Fr.refl R w)
  have HLO := Lib.hid hp.lo
  have HM := Lib.hid h
  clear h hp
  go_enter Tryz.func80, Tryz.ntmps80
  clear hr hn
  go_upto_region 1 with fail
  have ka := Keeps.one w (.cells #[.int .i64 k, .int .i64 ln, .int .i64 n, .string (ofL x), .slice a0 m0 c0] 42)
  obtain ⟨X, hX⟩ : ∃ X, X = w.heap.size := ⟨_, rfl⟩
  obtain ⟨w1, hw⟩ : ∃ w1, w1 = w.alloc (.cells #[.int .i64 k, .int .i64 ln, .int .i64 n, .string (ofL x), .slice a0 m0 c0] 42) := ⟨_, rfl⟩
  have HXX1 : Hid (Loc w1 R X [.int .i64 k, .int .i64 ln, .int .i64 n, .string (ofL x), .slice a0 m0 c0]) := Lib.hid (by rw [hw, hX]; exact Loc.new HP0.out.new [.int .i64 k, .int .i64 ln, .int .i64 n, .string (ofL x), .slice a0 m0 c0] 42)
  have HWX : Hid (w.heap.size ≤ X) := Lib.hid (by rw [hX]; exact HF0.out.1.size)
  rw [← hX]
  rw [← hw] at ka ⊢
  have HP1 := Lib.hid (HP0.out.keep ka)
  have HF1 := Lib.hid (HF0.out.keeps ka)
  clear HP0 HF0 ka hw hX
  obtain ⟨s2, e1, h⟩ := mod_out HM.out
  have NC := Lib.hid (want_at HP1.out ({ data := #[59] }) e1)
  replace HM := Lib.hid h
  clear h e1
  go_wp2_with fail
  refine NC.out.mono ?_
  rintro e w3 ⟨rfl, R4, hp, hf⟩
  have HP2 := Lib.hid hp
  have HF2 := Lib.hid (HF1.out.trans hf)
  have HXX2 := Lib.hid (HXX1.out.keep hf)
  clear HP1 HF1 HXX1 hp hf NC 
  have NC := Lib.hid (nodeC P src T k ln n x l _ _ _ _ _ a0 m0 c0 a c HM.out HP2.out (HRD.out.keep HF2.out.1 (fun h0 b off e hb => by
    obtain ⟨X', off', e', hX, _⟩ := HNR.out h0
    rw [e] at e'
    cases e'
    exact hX hb)) (fun h0 => by
    obtain ⟨X', off', e', hX, hPX⟩ := HNR.out h0
    exact ⟨X', off', e', fun hb => hX (HF2.out.2 X' (HRD.out.lt h0 e') hb), hPX⟩))
  have zX0 := HXX2.out.cells 0 _ rfl
  have zX1 := HXX2.out.cells 1 _ rfl
  have zX2 := HXX2.out.cells 2 _ rfl
  have zX3 := HXX2.out.cells 3 _ rfl
  have zX4 := HXX2.out.cells 4 _ rfl
  go_wp2_with fail
  refine NC.out.mono ?_
  rintro e w9 ⟨rfl, R9, hp, hk, hb⟩
  have HZ : Hid (∃ R', Par w9 P src T R' s' ∧ Keeps R w w9 ∧ ∀ b, b < w.heap.size → R' b → R b ∨ ∃ off, a = some ⟨b, off, none⟩) := Lib.hid ⟨R9, hp, HF2.out.1.trans hk (fun x hx hr => HF2.out.2 x hx hr), fun b hb2 hr2 => (hb b (Nat.lt_of_lt_of_le hb2 HF2.out.1.size) hr2).imp (HF2.out.2 b hb2) id⟩
  clear hp hk hb NC zX0 zX1 zX2 zX3 zX4
  go_wp2_with fail
  go_ret
  exact ⟨rfl, HZ.out⟩

end Go.Proofs.YtgelggdgbmldiaaGreatDoor

namespace Go.Proofs.YtgelggdgbmldiaaGreatDoor
open Go Go.RowKit Go.Shelf
set_option linter.unusedVariables false
set_option linter.unusedSimpArgs false

set_option maxRecDepth 100000 in
set_option maxHeartbeats 16000000 in
theorem right_any {P : Nat} {src : ByteArray} {T : List Tok} {N : Nat} {ex : PM Int} (hsz : src.size ≤ 1000) (EX : ExC P src T 78 ex) (CALL : ExC P src T 81 (callM src.data.toList T N ex)) : ExC P src T 82 (rightM src.data.toList T N ex) := by
  intro s r s' R w h hp
  have HP0 := Lib.hid hp
  have HF0 := Lib.hid (Fr.refl R w)
  have HLO := Lib.hid hp.lo
  have HM := Lib.hid h
  clear h hp
  go_enter Tryz.func82, Tryz.ntmps82
  obtain ⟨ln, hln, h⟩ := ask_out HM.out
  have LC := Lib.hid (line_at hsz HP0.out hln)
  replace HM := Lib.hid h
  clear h hln
  go_wp2_with fail
  refine LC.out.mono ?_
  rintro e w1 ⟨rfl, k1⟩
  have HP1 := Lib.hid (HP0.out.keep k1)
  have HF1 := Lib.hid (HF0.out.keeps k1)
  clear HP0 HF0 LC k1 
  go_upto_region 2 with fail
  have ka := Keeps.one w1 (.cells #[.int .i64 0, .int .i64 ln, .int .i64 0, .string { data := #[] }, .slice none 0 0] 42)
  obtain ⟨X, hX⟩ : ∃ X, X = w1.heap.size := ⟨_, rfl⟩
  obtain ⟨w2, hw⟩ : ∃ w2, w2 = w1.alloc (.cells #[.int .i64 0, .int .i64 ln, .int .i64 0, .string { data := #[] }, .slice none 0 0] 42) := ⟨_, rfl⟩
  have HXX2 : Hid (Loc w2 R X [.int .i64 0, .int .i64 ln, .int .i64 0, .string (ofL []), .slice none 0 0]) := Lib.hid (by rw [hw, hX]; exact Loc.new HP1.out.new [.int .i64 0, .int .i64 ln, .int .i64 0, .string (ofL []), .slice none 0 0] 42)
  have HWX : Hid (w.heap.size ≤ X) := Lib.hid (by rw [hX]; exact HF1.out.1.size)
  rw [← hX]
  rw [← hw] at ka ⊢
  have HP2 := Lib.hid (HP1.out.keep ka)
  have HF2 := Lib.hid (HF1.out.keeps ka)
  clear HP1 HF1 ka hw hX
  obtain ⟨b, hb, h⟩ := ask_out HM.out
  have IC := Lib.hid (is_at1 HP2.out ({ data := #[105, 110, 112, 117, 116] }) hb)
  replace HM := Lib.hid h
  clear h hb
  cases b with
  | true =>
    have h := HM.out
    rw [if_pos rfl] at h
    replace HM := Lib.hid h
    clear h
    go_wp2_with fail
    refine IC.out.mono ?_
    rintro e w3 ⟨rfl, k1⟩
    have HP3 := Lib.hid (HP2.out.keep k1)
    have HF3 := Lib.hid (HF2.out.keeps k1)
    have HXX3 := Lib.hid (HXX2.out.keeps k1)
    clear HP2 HF2 HXX2 IC k1 
    obtain ⟨s4, e1, h⟩ := mod_out HM.out
    have NC := Lib.hid (next_at HP3.out e1)
    replace HM := Lib.hid h
    clear h e1
    go_wp2_with fail
    refine NC.out.mono ?_
    rintro e w5 ⟨rfl, R6, hp, hf⟩
    have HP4 := Lib.hid hp
    have HF4 := Lib.hid (HF3.out.trans hf)
    have HXX4 := Lib.hid (HXX3.out.keep hf)
    clear HP3 HF3 HXX3 hp hf NC 
    have zX0 := HXX4.out.cells 0 _ rfl
    have gX0 := HXX4.out.fz 0
    go_upto_region 5 with fail
    clear zX0 gX0
    obtain ⟨w7, hw⟩ : ∃ w7, w7 = w5.setCell ⟨X, 0, none⟩ (.int .i64 19) := ⟨_, rfl⟩
    have HP5 := Lib.hid (HP4.out.local HXX4.out.out (Nat.lt_of_lt_of_le HLO.out HWX.out) 0 (.int .i64 19))
    have HF5 := Lib.hid (HF4.out.local HWX.out 0 (.int .i64 19))
    have HXX5 : Hid (Loc w7 R6 X [.int .i64 19, .int .i64 ln, .int .i64 0, .string (ofL []), .slice none 0 0]) := Lib.hid (by rw [hw]; exact HXX4.out.set 0 (.int .i64 19) (by simp))
    rw [← hw] at HP5 HF5 ⊢
    clear HP4 HF4 HXX4 hw
    have NC := Lib.hid ((nodeC P src T).nil HP5.out (19) (ln) (0) ([]) HM.out)
    have zX0 := HXX5.out.cells 0 _ rfl
    have zX1 := HXX5.out.cells 1 _ rfl
    have zX2 := HXX5.out.cells 2 _ rfl
    have zX3 := HXX5.out.cells 3 _ rfl
    have zX4 := HXX5.out.cells 4 _ rfl
    go_wp2_with fail
    refine NC.out.mono ?_
    rintro e w8 ⟨rfl, R9, hp, hf⟩
    have HP6 := Lib.hid hp
    have HF6 := Lib.hid (HF5.out.trans hf)
    have HXX6 := Lib.hid (HXX5.out.keep hf)
    clear HP5 HF5 HXX5 hp hf NC zX0 zX1 zX2 zX3 zX4
    go_wp2_with fail
    go_ret
    exact ⟨rfl, _, HP6.out, HF6.out⟩
  | false =>
    have h := HM.out
    rw [if_neg (by decide)] at h
    replace HM := Lib.hid h
    clear h
    go_wp2_with fail
    refine IC.out.mono ?_
    rintro e w10 ⟨rfl, k1⟩
    have HP3 := Lib.hid (HP2.out.keep k1)
    have HF3 := Lib.hid (HF2.out.keeps k1)
    have HXX3 := Lib.hid (HXX2.out.keeps k1)
    clear HP2 HF2 HXX2 IC k1 
    obtain ⟨b, hb, h⟩ := ask_out HM.out
    have IC := Lib.hid (is_at1 HP3.out ({ data := #[110, 101, 119] }) hb)
    replace HM := Lib.hid h
    clear h hb
    cases b with
    | true =>
      have h := HM.out
      rw [if_pos rfl] at h
      replace HM := Lib.hid h
      clear h
      go_wp2_with fail
      refine IC.out.mono ?_
      rintro e w11 ⟨rfl, k1⟩
      have HP4 := Lib.hid (HP3.out.keep k1)
      have HF4 := Lib.hid (HF3.out.keeps k1)
      have HXX4 := Lib.hid (HXX3.out.keeps k1)
      clear HP3 HF3 HXX3 IC k1 
      obtain ⟨s12, e1, h⟩ := mod_out HM.out
      have NC := Lib.hid (next_at HP4.out e1)
      replace HM := Lib.hid h
      clear h e1
      go_wp2_with fail
      refine NC.out.mono ?_
      rintro e w13 ⟨rfl, R14, hp, hf⟩
      have HP5 := Lib.hid hp
      have HF5 := Lib.hid (HF4.out.trans hf)
      have HXX5 := Lib.hid (HXX4.out.keep hf)
      clear HP4 HF4 HXX4 hp hf NC 
      have zX0 := HXX5.out.cells 0 _ rfl
      have gX0 := HXX5.out.fz 0
      go_upto_region 9 with fail
      clear zX0 gX0
      obtain ⟨w15, hw⟩ : ∃ w15, w15 = w13.setCell ⟨X, 0, none⟩ (.int .i64 20) := ⟨_, rfl⟩
      have HP6 := Lib.hid (HP5.out.local HXX5.out.out (Nat.lt_of_lt_of_le HLO.out HWX.out) 0 (.int .i64 20))
      have HF6 := Lib.hid (HF5.out.local HWX.out 0 (.int .i64 20))
      have HXX6 : Hid (Loc w15 R14 X [.int .i64 20, .int .i64 ln, .int .i64 0, .string (ofL []), .slice none 0 0]) := Lib.hid (by rw [hw]; exact HXX5.out.set 0 (.int .i64 20) (by simp))
      rw [← hw] at HP6 HF6 ⊢
      clear HP5 HF5 HXX5 hw
      obtain ⟨s16, e1, h⟩ := mod_out HM.out
      have NC := Lib.hid (want_at HP6.out ({ data := #[40] }) e1)
      replace HM := Lib.hid h
      clear h e1
      go_wp2_with fail
      refine NC.out.mono ?_
      rintro e w17 ⟨rfl, R18, hp, hf⟩
      have HP7 := Lib.hid hp
      have HF7 := Lib.hid (HF6.out.trans hf)
      have HXX7 := Lib.hid (HXX6.out.keep hf)
      clear HP6 HF6 HXX6 hp hf NC 
      obtain ⟨y, s19, hm, h⟩ := bind_out HM.out
      have NC := Lib.hid (EX _ _ _ _ _ hm HP7.out)
      replace HM := Lib.hid h
      clear h hm
      go_wp2_with fail
      refine NC.out.mono ?_
      rintro e w20 ⟨rfl, R21, hp, hf⟩
      have HP8 := Lib.hid hp
      have HF8 := Lib.hid (HF7.out.trans hf)
      have HXX8 := Lib.hid (HXX7.out.keep hf)
      clear HP7 HF7 HXX7 hp hf NC 
      obtain ⟨s22, e1, h⟩ := mod_out HM.out
      have NC := Lib.hid (want_at HP8.out ({ data := #[41] }) e1)
      replace HM := Lib.hid h
      clear h e1
      go_wp2_with fail
      refine NC.out.mono ?_
      rintro e w23 ⟨rfl, R24, hp, hf⟩
      have HP9 := Lib.hid hp
      have HF9 := Lib.hid (HF8.out.trans hf)
      have HXX9 := Lib.hid (HXX8.out.keep hf)
      clear HP8 HF8 HXX8 hp hf NC 
      have NC := Lib.hid ((nodeC P src T).one HP9.out (20) (ln) (0) ([]) y HM.out)
      have zX0 := HXX9.out.cells 0 _ rfl
      have zX1 := HXX9.out.cells 1 _ rfl
      have zX2 := HXX9.out.cells 2 _ rfl
      have zX3 := HXX9.out.cells 3 _ rfl
      have zX4 := HXX9.out.cells 4 _ rfl
      go_wp2_with fail
      refine NC.out.mono ?_
      rintro e w25 ⟨rfl, R26, hp, hf⟩
      have HP10 := Lib.hid hp
      have HF10 := Lib.hid (HF9.out.trans hf)
      have HXX10 := Lib.hid (HXX9.out.keep hf)
      clear HP9 HF9 HXX9 hp hf NC zX0 zX1 zX2 zX3 zX4
      go_wp2_with fail
      go_ret
      exact ⟨rfl, _, HP10.out, HF10.out⟩
    | false =>
      have h := HM.out
      rw [if_neg (by decide)] at h
      replace HM := Lib.hid h
      clear h
      go_wp2_with fail
      refine IC.out.mono ?_
      rintro e w27 ⟨rfl, k1⟩
      have HP4 := Lib.hid (HP3.out.keep k1)
      have HF4 := Lib.hid (HF3.out.keeps k1)
      have HXX4 := Lib.hid (HXX3.out.keeps k1)
      clear HP3 HF3 HXX3 IC k1 
      obtain ⟨b, hb, h⟩ := ask_out HM.out
      have IC := Lib.hid (calls_at HP4.out hb)
      replace HM := Lib.hid h
      clear h hb
      cases b with
      | true =>
        have h := HM.out
        rw [if_pos rfl] at h
        replace HM := Lib.hid h
        clear h
        go_wp2_with fail
        refine IC.out.mono ?_
        rintro e w28 ⟨rfl, k1⟩
        have HP5 := Lib.hid (HP4.out.keep k1)
        have HF5 := Lib.hid (HF4.out.keeps k1)
        have HXX5 := Lib.hid (HXX4.out.keeps k1)
        clear HP4 HF4 HXX4 IC k1 
        have NC := Lib.hid (CALL _ _ _ _ _ HM.out HP5.out)
        go_wp2_with fail
        refine NC.out.mono ?_
        rintro e w29 ⟨rfl, R30, hp, hf⟩
        have HP6 := Lib.hid hp
        have HF6 := Lib.hid (HF5.out.trans hf)
        have HXX6 := Lib.hid (HXX5.out.keep hf)
        clear HP5 HF5 HXX5 hp hf NC 
        go_wp2_with fail
        go_ret
        exact ⟨rfl, _, HP6.out, HF6.out⟩
      | false =>
        have h := HM.out
        rw [if_neg (by decide)] at h
        replace HM := Lib.hid h
        clear h
        go_wp2_with fail
        refine IC.out.mono ?_
        rintro e w31 ⟨rfl, k1⟩
        have HP5 := Lib.hid (HP4.out.keep k1)
        have HF5 := Lib.hid (HF4.out.keeps k1)
        have HXX5 := Lib.hid (HXX4.out.keeps k1)
        clear HP4 HF4 HXX4 IC k1 
        have NC := Lib.hid (EX _ _ _ _ _ HM.out HP5.out)
        go_wp2_with fail
        refine NC.out.mono ?_
        rintro e w32 ⟨rfl, R33, hp, hf⟩
        have HP6 := Lib.hid hp
        have HF6 := Lib.hid (HF5.out.trans hf)
        have HXX6 := Lib.hid (HXX5.out.keep hf)
        clear HP5 HF5 HXX5 hp hf NC 
        go_wp2_with fail
        go_ret
        exact ⟨rfl, _, HP6.out, HF6.out⟩

set_option maxRecDepth 100000 in
set_option maxHeartbeats 16000000 in
theorem kind_any {P : Nat} {src : ByteArray} {T : List Tok}  : ExC P src T 34 (kindM T) := by
  intro s r s' R w h hp
  have HP0 := Lib.hid hp
  have HF0 := Lib.hid (Fr.refl R w)
  have HLO := Lib.hid hp.lo
  have HM := Lib.hid h
  clear h hp
  go_enter Tryz.func34, Tryz.ntmps34
  obtain ⟨tk, htk⟩ : ∃ tk, tk = tokA T s := ⟨_, rfl⟩
  have F1 : ∀ w, Sem.run Tryz.prog (Instr.field 38 (.agg #[.int .i64 (tk.k : Int), .string (ofL tk.x), .int .i64 (tk.p : Int)]) 1) w = .ok (.string (ofL tk.x)) w := fun w => tok_field1 _ _ _ w
  have HTK := Lib.hid htk
  clear htk
  obtain ⟨b, hb, h⟩ := ask_out HM.out
  have IC := Lib.hid (is_at4 HP0.out ({ data := #[105, 110, 116] }) ({ data := #[98, 111, 111, 108] }) ({ data := #[116, 101, 120, 116] }) ({ data := #[108, 105, 115, 116] }) hb)
  replace HM := Lib.hid h
  clear h hb
  cases b with
  | true =>
    have h := HM.out
    rw [if_pos rfl] at h
    replace HM := Lib.hid h
    clear h
    go_wp2_with fail
    refine IC.out.mono ?_
    rintro e w1 ⟨rfl, k1⟩
    have HP1 := Lib.hid (HP0.out.keep k1)
    have HF1 := Lib.hid (HF0.out.keeps k1)
    clear HP0 HF0 IC k1 
    obtain ⟨t2, ht, h⟩ := ask_out HM.out
    obtain rfl : t2 = tk := ht.trans HTK.out.symm
    have NC := Lib.hid (now_at HP1.out ht)
    replace HM := Lib.hid h
    clear h ht
    go_wp2_with fail
    refine NC.out.mono ?_
    rintro e w2 ⟨rfl, k1⟩
    have HP2 := Lib.hid (HP1.out.keep k1)
    have HF2 := Lib.hid (HF1.out.keeps k1)
    clear HP1 HF1 NC k1 
    have TC : Hid (Calls Tryz.prog 11 #[.string (ofL t2.x)] w2 fun e w' => e = .returned (.int .i64 (typeN t2.x)) ∧ Keeps (fun _ => False) w2 w') := Lib.hid ((type_any (ofL t2.x) w2).mono fun e w' ⟨h1, h2⟩ => ⟨by rw [h1, ofL_list], h2 ▸ Keeps.refl _ _⟩)
    go_wp2_with fail
    refine TC.out.mono ?_
    rintro e w3 ⟨rfl, k1⟩
    have HP3 := Lib.hid (HP2.out.keep k1)
    have HF3 := Lib.hid (HF2.out.keeps k1)
    clear HP2 HF2 TC k1 
    obtain ⟨s4, e1, h⟩ := mod_out HM.out
    have NC := Lib.hid (next_at HP3.out e1)
    replace HM := Lib.hid h
    clear h e1
    go_wp2_with fail
    refine NC.out.mono ?_
    rintro e w5 ⟨rfl, R6, hp, hf⟩
    have HP4 := Lib.hid hp
    have HF4 := Lib.hid (HF3.out.trans hf)
    clear HP3 HF3 hp hf NC 
    obtain ⟨q1, q2⟩ := pure_end HM.out
    subst q1
    subst q2
    go_wp2_with fail
    go_ret
    exact ⟨rfl, _, HP4.out, HF4.out⟩
  | false =>
    have h := HM.out
    rw [if_neg (by decide)] at h
    replace HM := Lib.hid h
    clear h
    go_wp2_with fail
    refine IC.out.mono ?_
    rintro e w7 ⟨rfl, k1⟩
    have HP1 := Lib.hid (HP0.out.keep k1)
    have HF1 := Lib.hid (HF0.out.keeps k1)
    clear HP0 HF0 IC k1 
    obtain ⟨s8, e1, h⟩ := mod_out HM.out
    have NC := Lib.hid (fail_at HP1.out 20 e1)
    replace HM := Lib.hid h
    clear h e1
    go_wp2_with fail
    refine NC.out.mono ?_
    rintro e w9 ⟨rfl, R10, hp, hf⟩
    have HP2 := Lib.hid hp
    have HF2 := Lib.hid (HF1.out.trans hf)
    clear HP1 HF1 hp hf NC 
    obtain ⟨q1, q2⟩ := pure_end HM.out
    subst q1
    subst q2
    go_wp2_with fail
    go_ret
    exact ⟨rfl, _, HP2.out, HF2.out⟩

set_option maxRecDepth 100000 in
set_option maxHeartbeats 16000000 in
theorem param_any {P : Nat} {src : ByteArray} {T : List Tok} (s : PS) (x : List UInt8) (t : Int) (s' : PS) (R : Nat → Prop) (w : World) (h : paramM T s = some ((x, t), s')) (hp : Par w P src T R s) : Calls Tryz.prog 32 #[.pointer (some ⟨P, 0, none⟩)] w (Post P src T R w (.agg #[.string (ofL x), .int .i64 t]) s') := by
  have HP0 := Lib.hid hp
  have HF0 := Lib.hid (Fr.refl R w)
  have HLO := Lib.hid hp.lo
  have HM := Lib.hid h
  clear h hp
  go_enter Tryz.func32, Tryz.ntmps32
  go_upto_region 1 with fail
  have ka := Keeps.one w (.cells #[.string { data := #[] }, .int .i64 0] 58)
  obtain ⟨X, hX⟩ : ∃ X, X = w.heap.size := ⟨_, rfl⟩
  obtain ⟨w1, hw⟩ : ∃ w1, w1 = w.alloc (.cells #[.string { data := #[] }, .int .i64 0] 58) := ⟨_, rfl⟩
  have HXX1 : Hid (Loc w1 R X [.string (ofL []), .int .i64 0]) := Lib.hid (by rw [hw, hX]; exact Loc.new HP0.out.new [.string (ofL []), .int .i64 0] 58)
  have HWX : Hid (w.heap.size ≤ X) := Lib.hid (by rw [hX]; exact HF0.out.1.size)
  rw [← hX]
  rw [← hw] at ka ⊢
  have HP1 := Lib.hid (HP0.out.keep ka)
  have HF1 := Lib.hid (HF0.out.keeps ka)
  clear HP0 HF0 ka hw hX
  obtain ⟨x9, ex, h⟩ := ask_out HM.out
  obtain ⟨s2, e1, h⟩ := mod_out h
  have NC := Lib.hid (name_at HP1.out e1 ex)
  replace HM := Lib.hid h
  clear h e1 ex
  go_wp2_with fail
  refine NC.out.mono ?_
  rintro e w3 ⟨rfl, R4, hp, hf⟩
  have HP2 := Lib.hid hp
  have HF2 := Lib.hid (HF1.out.trans hf)
  have HXX2 := Lib.hid (HXX1.out.keep hf)
  clear HP1 HF1 HXX1 hp hf NC 
  obtain ⟨t9, s8, hm, h⟩ := bind_out HM.out
  have NC := Lib.hid (kind_any _ _ _ _ _ hm HP2.out)
  replace HM := Lib.hid h
  clear h hm
  go_wp2_with fail
  refine NC.out.mono ?_
  rintro e w5 ⟨rfl, R6, hp, hf⟩
  have HP3 := Lib.hid hp
  have HF3 := Lib.hid (HF2.out.trans hf)
  have HXX3 := Lib.hid (HXX2.out.keep hf)
  clear HP2 HF2 HXX2 hp hf NC 
  obtain ⟨q1, q2⟩ := pure_end HM.out
  obtain ⟨q3, q4⟩ := Prod.mk.inj q1
  subst q3
  subst q4
  subst q2
  clear q1
  have zX0 := HXX3.out.cells 0 _ rfl
  have zX1 := HXX3.out.cells 1 _ rfl
  have gX0 := HXX3.out.fz 0
  have gX1 := HXX3.out.fz 1
  go_wp2_with fail
  (try simp only [Exit.inBlock, Exit.then])
  refine bodyPost_ret (v := .agg #[.string (ofL x), .int .i64 t]) ?_ rfl ?_
  · rw [results_cell1 rfl]
    go_simp
  clear zX0 zX1 gX0 gX1
  exact ⟨rfl, _, (HP3.out.local HXX3.out.out (Nat.lt_of_lt_of_le HLO.out HWX.out) 0 _).local HXX3.out.out (Nat.lt_of_lt_of_le HLO.out HWX.out) 1 _, (HF3.out.local HWX.out 0 _).local HWX.out 1 _⟩

end Go.Proofs.YtgelggdgbmldiaaGreatDoor
