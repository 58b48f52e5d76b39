/-
  Layer 2: the document's reader: right, named. Written by an AI agent.
-/
import Derived.Lib.Bytealg
import Derived.Test.YtgelggdgbmldiaaDoorChecked
import Derived.Laws.OwnMore
import Derived.Laws.AppendOwnNone
import Derived.OwnWalk
import Derived.Lib.AppendZerosOnto
import Derived.Below
import Derived.Stop.Walk2
import Derived.WalkKit
import Derived.WalkLawsBesides
import Derived.WalkSpells
import Derived.Outline
import Derived.BigQuiet
import Derived.Deep.CutBlock
import Derived.Deep.CutRange
import Derived.Deep.DeepCutAuto
import Derived.Deep.RegionHeld3
import Derived.Deep.RegionLaw
import Derived.Deep.RegionWith
import Derived.StillTailTactics
import Derived.RegionTactic
import Derived.Laws.StructEq
import Derived.Lib.Hide
import Derived.Shelf.Abstract
import Derived.Shelf.Lay
import Derived.Ground.NamesProg
import Derived.Shelf.Strings.Prefix
import Derived.Shelf.Small.Strs
import Derived.Shelf.Strings.Count
import Derived.Shelf.Strconv.ErrVarParseInt
import Derived.WalkMore
import Derived.Scope
import Derived.Shelf.Slices.Turned
import Derived.Lib.SlicesS
import Derived.Deep.RegionHeld
import Derived.Deep.LoopGhost
import Derived.Shelf.Strconv.AtoiAll
import Derived.Test.YtgelggdgbmldiaaDoorMcaa
import Derived.Test.YtgelggdgbmldiaaDoorMcac
import Derived.Test.YtgelggdgbmldiaaDoorMcad
import Derived.Test.YtgelggdgbmldiaaDoorMcag
import Derived.Test.YtgelggdgbmldiaaDoorMcah
import Derived.Test.YtgelggdgbmldiaaDoorMcas
import Derived.Test.YtgelggdgbmldiaaDoorMcat
import Derived.Test.YtgelggdgbmldiaaDoorMcau
import Derived.Test.YtgelggdgbmldiaaDoorMcav
import Derived.Test.YtgelggdgbmldiaaDoorMcaw
import Derived.Test.YtgelggdgbmldiaaDoorMcax
import Derived.Test.YtgelggdgbmldiaaDoorMcay
import Derived.Test.YtgelggdgbmldiaaDoorMcaz
namespace Go.Proofs.YtgelggdgbmldiaaDoor
open Go Go.RowKit Go.Shelf
set_option linter.unusedVariables false
set_option linter.unusedSimpArgs false
set_option maxRecDepth 100000 in
set_option maxHeartbeats 16000000 in
theorem rright_any {P : Nat} {src : ByteArray} {T : List Tok} {N : Nat} {ex : PM Int} (hsz : src.size ≤ 1000) (EX : RexC P src T 119 ex) (CALL : RexC P src T 133 (rcallM src.data.toList T N ex)) : RexC P src T 118 (rrightM src.data.toList T N ex) := by
  intro s r s' R w h hp
  have HP0 := Lib.hid hp
  have HF0 := Lib.hid (Fr.refl R w)
  have HLO := Lib.hid hp.lo
  have HM := Lib.hid h
  clear h hp
  go_enter Tryd.func118, Tryd.ntmps118
  obtain ⟨ln, hln, h⟩ := ask_out HM.out
  have LC := Lib.hid (rline_q hsz HP0.out hln)
  replace HM := Lib.hid h
  clear h hln
  go_wp2_with fail
  refine LC.out.mono ?_
  rintro e w1 ⟨rfl, k1⟩
  have HP1 := Lib.hid (HP0.out.keep k1)
  have HF1 := Lib.hid (HF0.out.keeps k1)
  clear HP0 HF0 LC k1 
  obtain ⟨b, hb, h⟩ := ask_out HM.out
  have IC := Lib.hid (ris_q HP1.out ({ data := #[105, 110, 112, 117, 116] }) hb)
  replace HM := Lib.hid h
  clear h hb
  cases b with
  | true =>
    have h := HM.out
    rw [if_pos rfl] at h
    replace HM := Lib.hid h
    clear h
    go_wp2_with fail
    refine IC.out.mono ?_
    rintro e w2 ⟨rfl, k1⟩
    have HP2 := Lib.hid (HP1.out.keep k1)
    have HF2 := Lib.hid (HF1.out.keeps k1)
    clear HP1 HF1 IC k1 
    obtain ⟨u, s3, hm, h⟩ := bind_out HM.out
    obtain ⟨hi, e1⟩ := go_out hm
    replace HM := Lib.hid h
    obtain ⟨ew, c2, f2, hp, hf⟩ := HP2.out.stepAt hi
    have HP3 : Hid (Red (w2.setCell ⟨P, 2, none⟩ (.int .i64 ((s.i : Int) + 1))) P src T R s3) := Lib.hid (by rw [e1]; exact hp)
    have HF3 := Lib.hid (HF2.out.trans hf)
    clear h hm e1 hi hp hf HP2 HF2
    generalize (s.i : Int) = ii at *
    go_upto_region 5 with fail
    generalize w2.setCell ⟨P, 2, none⟩ (.int .i64 (ii + 1)) = w4 at *
    clear c2 f2 ew
    have NC := Lib.hid ((putC P src T).nil HP3.out (19) (ln) (0) ([]) HM.out)
    go_wp2_with fail
    refine NC.out.mono ?_
    rintro e w5 ⟨rfl, R6, hp, hf⟩
    have HP4 := Lib.hid hp
    have HF4 := Lib.hid (HF3.out.trans hf)
    clear HP3 HF3 hp hf NC 
    go_wp2_with fail
    go_ret
    exact ⟨rfl, _, HP4.out, HF4.out⟩
  | false =>
    have h := HM.out
    rw [if_neg (by decide)] at h
    replace HM := Lib.hid h
    clear h
    go_wp2_with fail
    refine IC.out.mono ?_
    rintro e w7 ⟨rfl, k1⟩
    have HP2 := Lib.hid (HP1.out.keep k1)
    have HF2 := Lib.hid (HF1.out.keeps k1)
    clear HP1 HF1 IC k1 
    obtain ⟨b, hb, h⟩ := ask_out HM.out
    have IC := Lib.hid (ris_q HP2.out ({ data := #[110, 101, 119] }) hb)
    replace HM := Lib.hid h
    clear h hb
    cases b with
    | true =>
      have h := HM.out
      rw [if_pos rfl] at h
      replace HM := Lib.hid h
      clear h
      go_wp2_with fail
      refine IC.out.mono ?_
      rintro e w8 ⟨rfl, k1⟩
      have HP3 := Lib.hid (HP2.out.keep k1)
      have HF3 := Lib.hid (HF2.out.keeps k1)
      clear HP2 HF2 IC k1 
      obtain ⟨u, s9, hm, h⟩ := bind_out HM.out
      obtain ⟨hi, e1⟩ := go_out hm
      replace HM := Lib.hid h
      obtain ⟨ew, c2, f2, hp, hf⟩ := HP3.out.stepAt hi
      have HP4 : Hid (Red (w8.setCell ⟨P, 2, none⟩ (.int .i64 ((s.i : Int) + 1))) P src T R s9) := Lib.hid (by rw [e1]; exact hp)
      have HF4 := Lib.hid (HF3.out.trans hf)
      clear h hm e1 hi hp hf HP3 HF3
      generalize (s.i : Int) = ii at *
      go_upto_region 9 with fail
      generalize w8.setCell ⟨P, 2, none⟩ (.int .i64 (ii + 1)) = w10 at *
      clear c2 f2 ew
      obtain ⟨s11, e1, h⟩ := mod_out HM.out
      have NC := Lib.hid (must_q HP4.out ({ data := #[40] }) e1)
      replace HM := Lib.hid h
      clear h e1
      go_wp2_with fail
      refine NC.out.mono ?_
      rintro e w12 ⟨rfl, R13, hp, hf⟩
      have HP5 := Lib.hid hp
      have HF5 := Lib.hid (HF4.out.trans hf)
      clear HP4 HF4 hp hf NC 
      obtain ⟨a, s14, hm, h⟩ := bind_out HM.out
      have NC := Lib.hid (EX _ _ _ _ _ hm HP5.out)
      replace HM := Lib.hid h
      clear h hm
      go_wp2_with fail
      refine NC.out.mono ?_
      rintro e w15 ⟨rfl, R16, hp, hf⟩
      have HP6 := Lib.hid hp
      have HF6 := Lib.hid (HF5.out.trans hf)
      clear HP5 HF5 hp hf NC 
      obtain ⟨s17, e1, h⟩ := mod_out HM.out
      have NC := Lib.hid (must_q HP6.out ({ data := #[41] }) e1)
      replace HM := Lib.hid h
      clear h e1
      go_wp2_with fail
      refine NC.out.mono ?_
      rintro e w18 ⟨rfl, R19, hp, hf⟩
      have HP7 := Lib.hid hp
      have HF7 := Lib.hid (HF6.out.trans hf)
      clear HP6 HF6 hp hf NC 
      have NC := Lib.hid ((putC P src T).one HP7.out (20) (ln) (0) ([]) a HM.out)
      go_wp2_with fail
      refine NC.out.mono ?_
      rintro e w20 ⟨rfl, R21, hp, hf⟩
      have HP8 := Lib.hid hp
      have HF8 := Lib.hid (HF7.out.trans hf)
      clear HP7 HF7 hp hf NC 
      go_wp2_with fail
      go_ret
      exact ⟨rfl, _, HP8.out, HF8.out⟩
    | false =>
      have h := HM.out
      rw [if_neg (by decide)] at h
      replace HM := Lib.hid h
      clear h
      go_wp2_with fail
      refine IC.out.mono ?_
      rintro e w22 ⟨rfl, k1⟩
      have HP3 := Lib.hid (HP2.out.keep k1)
      have HF3 := Lib.hid (HF2.out.keeps k1)
      clear HP2 HF2 IC k1 
      obtain ⟨b, hb, h⟩ := ask_out HM.out
      have IC := Lib.hid (rcalls_q HP3.out hb)
      replace HM := Lib.hid h
      clear h hb
      cases b with
      | true =>
        have h := HM.out
        rw [if_pos rfl] at h
        replace HM := Lib.hid h
        clear h
        go_wp2_with fail
        refine IC.out.mono ?_
        rintro e w23 ⟨rfl, k1⟩
        have HP4 := Lib.hid (HP3.out.keep k1)
        have HF4 := Lib.hid (HF3.out.keeps k1)
        clear HP3 HF3 IC k1 
        have NC := Lib.hid (CALL _ _ _ _ _ HM.out HP4.out)
        go_wp2_with fail
        refine NC.out.mono ?_
        rintro e w24 ⟨rfl, R25, hp, hf⟩
        have HP5 := Lib.hid hp
        have HF5 := Lib.hid (HF4.out.trans hf)
        clear HP4 HF4 hp hf NC 
        go_wp2_with fail
        go_ret
        exact ⟨rfl, _, HP5.out, HF5.out⟩
      | false =>
        have h := HM.out
        rw [if_neg (by decide)] at h
        replace HM := Lib.hid h
        clear h
        go_wp2_with fail
        refine IC.out.mono ?_
        rintro e w26 ⟨rfl, k1⟩
        have HP4 := Lib.hid (HP3.out.keep k1)
        have HF4 := Lib.hid (HF3.out.keeps k1)
        clear HP3 HF3 IC k1 
        have NC := Lib.hid (EX _ _ _ _ _ HM.out HP4.out)
        go_wp2_with fail
        refine NC.out.mono ?_
        rintro e w27 ⟨rfl, R28, hp, hf⟩
        have HP5 := Lib.hid hp
        have HF5 := Lib.hid (HF4.out.trans hf)
        clear HP4 HF4 hp hf NC 
        go_wp2_with fail
        go_ret
        exact ⟨rfl, _, HP5.out, HF5.out⟩
set_option maxRecDepth 100000 in
set_option maxHeartbeats 16000000 in
theorem rnamed_any {P : Nat} {src : ByteArray} {T : List Tok} {N : Nat} {ex : PM Int} (EX : RexC P src T 119 ex) (CALL : RexC P src T 133 (rcallM src.data.toList T N ex)) (RIGHT : RexC P src T 118 (rrightM src.data.toList T N ex)) (ln : Int) (s : PS) (r : Int) (s' : PS) (R : Nat → Prop) (w : World) (h : rnamedM src.data.toList T N ex ln s = some (r, s')) (hp : Red w P src T R s) :
    Calls Tryd.prog 120 #[.pointer (some ⟨P, 0, none⟩), .int .i64 ln] w (PostR P src T R w (.int .i64 r) s') := by
  have HP0 := Lib.hid hp
  have HF0 := Lib.hid (Fr.refl R w)
  have HLO := Lib.hid hp.lo
  have HM := Lib.hid h
  clear h hp
  go_enter Tryd.func120, Tryd.ntmps120
  obtain ⟨b, hb, h⟩ := ask_out HM.out
  have IC := Lib.hid (rcalls_q HP0.out hb)
  replace HM := Lib.hid h
  clear h hb
  cases b with
  | true =>
    have h := HM.out
    rw [if_pos rfl] at h
    replace HM := Lib.hid h
    clear h
    go_wp2_with fail
    refine IC.out.mono ?_
    rintro e w1 ⟨rfl, k1⟩
    have HP1 := Lib.hid (HP0.out.keep k1)
    have HF1 := Lib.hid (HF0.out.keeps k1)
    clear HP0 HF0 IC k1 
    obtain ⟨a, s2, hm, h⟩ := bind_out HM.out
    have NC := Lib.hid (CALL _ _ _ _ _ hm HP1.out)
    replace HM := Lib.hid h
    clear h hm
    go_wp2_with fail
    refine NC.out.mono ?_
    rintro e w3 ⟨rfl, R4, hp, hf⟩
    have HP2 := Lib.hid hp
    have HF2 := Lib.hid (HF1.out.trans hf)
    clear HP1 HF1 hp hf NC 
    obtain ⟨s5, e1, h⟩ := mod_out HM.out
    have NC := Lib.hid (must_q HP2.out ({ data := #[59] }) e1)
    replace HM := Lib.hid h
    clear h e1
    go_wp2_with fail
    refine NC.out.mono ?_
    rintro e w6 ⟨rfl, R7, hp, hf⟩
    have HP3 := Lib.hid hp
    have HF3 := Lib.hid (HF2.out.trans hf)
    clear HP2 HF2 hp hf NC 
    have NC := Lib.hid ((putC P src T).one HP3.out (13) (ln) (0) ([]) a HM.out)
    go_wp2_with fail
    refine NC.out.mono ?_
    rintro e w8 ⟨rfl, R9, hp, hf⟩
    have HP4 := Lib.hid hp
    have HF4 := Lib.hid (HF3.out.trans hf)
    clear HP3 HF3 hp hf NC 
    go_wp2_with fail
    go_ret
    exact ⟨rfl, _, HP4.out, HF4.out⟩
  | false =>
    have h := HM.out
    rw [if_neg (by decide)] at h
    replace HM := Lib.hid h
    clear h
    go_wp2_with fail
    refine IC.out.mono ?_
    rintro e w10 ⟨rfl, k1⟩
    have HP1 := Lib.hid (HP0.out.keep k1)
    have HF1 := Lib.hid (HF0.out.keeps k1)
    clear HP0 HF0 IC k1 
    obtain ⟨x, ex, h⟩ := ask_out HM.out
    obtain ⟨s11, e1, h⟩ := mod_out h
    have NC := Lib.hid (rname_q HP1.out e1 ex)
    replace HM := Lib.hid h
    clear h e1 ex
    go_wp2_with fail
    refine NC.out.mono ?_
    rintro e w12 ⟨rfl, R13, hp, hf⟩
    have HP2 := Lib.hid hp
    have HF2 := Lib.hid (HF1.out.trans hf)
    clear HP1 HF1 hp hf NC 
    obtain ⟨b, hb, h⟩ := ask_out HM.out
    have IC := Lib.hid (ris_q HP2.out ({ data := #[91] }) hb)
    replace HM := Lib.hid h
    clear h hb
    cases b with
    | true =>
      have h := HM.out
      rw [if_pos rfl] at h
      replace HM := Lib.hid h
      clear h
      go_wp2_with fail
      refine IC.out.mono ?_
      rintro e w14 ⟨rfl, k1⟩
      have HP3 := Lib.hid (HP2.out.keep k1)
      have HF3 := Lib.hid (HF2.out.keeps k1)
      clear HP2 HF2 IC k1 
      obtain ⟨y, s15, hm, h⟩ := bind_out HM.out
      have HK := Lib.hid h
      have HW := Lib.hid hm
      clear h hm
      unfold withinR at HW
      obtain ⟨u, s16, hm, h⟩ := bind_out HW.out
      have NC := Lib.hid (rdown_any HP3.out hm)
      replace HW := Lib.hid h
      clear h hm
      go_wp2_with fail
      refine NC.out.mono ?_
      rintro e w17 ⟨rfl, R18, hp, hf⟩
      have HP4 := Lib.hid hp
      have HF4 := Lib.hid (HF3.out.trans hf)
      clear HP3 HF3 hp hf NC 
      obtain ⟨s19, e1, h⟩ := mod_out HW.out
      have NC := Lib.hid (must_q HP4.out ({ data := #[91] }) e1)
      replace HW := Lib.hid h
      clear h e1
      go_wp2_with fail
      refine NC.out.mono ?_
      rintro e w20 ⟨rfl, R21, hp, hf⟩
      have HP5 := Lib.hid hp
      have HF5 := Lib.hid (HF4.out.trans hf)
      clear HP4 HF4 hp hf NC 
      obtain ⟨a, s22, hm, h⟩ := bind_out HW.out
      have NC := Lib.hid (EX _ _ _ _ _ hm HP5.out)
      replace HW := Lib.hid h
      clear h hm
      go_wp2_with fail
      refine NC.out.mono ?_
      rintro e w23 ⟨rfl, R24, hp, hf⟩
      have HP6 := Lib.hid hp
      have HF6 := Lib.hid (HF5.out.trans hf)
      clear HP5 HF5 hp hf NC 
      obtain ⟨s25, e1, h⟩ := mod_out HW.out
      have NC := Lib.hid (must_q HP6.out ({ data := #[93] }) e1)
      replace HW := Lib.hid h
      clear h e1
      go_wp2_with fail
      refine NC.out.mono ?_
      rintro e w26 ⟨rfl, R27, hp, hf⟩
      have HP7 := Lib.hid hp
      have HF7 := Lib.hid (HF6.out.trans hf)
      clear HP6 HF6 hp hf NC 
      obtain ⟨u, s28, hm, h⟩ := bind_out HW.out
      obtain ⟨hd, e1⟩ := deep_out hm
      replace HW := Lib.hid h
      have hs := HP7.out.see
      have c4 := hs.c4
      have f4 := hs.fz 4
      have hw := IntWalk.i64_in (s25.dp - 1) (by omega)
      have hset := HP7.out.setDp (s25.dp - 1)
      have HP8 : Hid (Red (w26.setCell ⟨P, 4, none⟩ (.int .i64 (s25.dp - 1))) P src T R27 s28) := Lib.hid (by rw [e1]; exact hset.1)
      have HF8 := Lib.hid (HF7.out.trans hset.2)
      clear h hm e1 hs hset HP7 HF7
      generalize s25.dp = dp at *
      go_upto_region 14 with fail
      generalize w26.setCell ⟨P, 4, none⟩ (.int .i64 (dp - 1)) = w29 at *
      clear c4 f4 hw hd
      obtain ⟨q1, q2⟩ := pure_end HW.out
      subst q1
      subst q2
      replace HM := HK
      clear HK HW
      obtain ⟨s30, e1, h⟩ := mod_out HM.out
      have NC := Lib.hid (must_q HP8.out ({ data := #[61] }) e1)
      replace HM := Lib.hid h
      clear h e1
      go_wp2_with fail
      refine NC.out.mono ?_
      rintro e w31 ⟨rfl, R32, hp, hf⟩
      have HP9 := Lib.hid hp
      have HF9 := Lib.hid (HF8.out.trans hf)
      clear HP8 HF8 hp hf NC 
      obtain ⟨z, s33, hm, h⟩ := bind_out HM.out
      have NC := Lib.hid (EX _ _ _ _ _ hm HP9.out)
      replace HM := Lib.hid h
      clear h hm
      go_wp2_with fail
      refine NC.out.mono ?_
      rintro e w34 ⟨rfl, R35, hp, hf⟩
      have HP10 := Lib.hid hp
      have HF10 := Lib.hid (HF9.out.trans hf)
      clear HP9 HF9 hp hf NC 
      obtain ⟨s36, e1, h⟩ := mod_out HM.out
      have NC := Lib.hid (must_q HP10.out ({ data := #[59] }) e1)
      replace HM := Lib.hid h
      clear h e1
      go_wp2_with fail
      refine NC.out.mono ?_
      rintro e w37 ⟨rfl, R38, hp, hf⟩
      have HP11 := Lib.hid hp
      have HF11 := Lib.hid (HF10.out.trans hf)
      clear HP10 HF10 hp hf NC 
      have NC := Lib.hid ((putC P src T).two HP11.out (12) (ln) (0) (x) y z HM.out)
      go_wp2_with fail
      refine NC.out.mono ?_
      rintro e w39 ⟨rfl, R40, hp, hf⟩
      have HP12 := Lib.hid hp
      have HF12 := Lib.hid (HF11.out.trans hf)
      clear HP11 HF11 hp hf NC 
      go_wp2_with fail
      go_ret
      exact ⟨rfl, _, HP12.out, HF12.out⟩
    | false =>
      have h := HM.out
      rw [if_neg (by decide)] at h
      replace HM := Lib.hid h
      clear h
      go_wp2_with fail
      refine IC.out.mono ?_
      rintro e w41 ⟨rfl, k1⟩
      have HP3 := Lib.hid (HP2.out.keep k1)
      have HF3 := Lib.hid (HF2.out.keeps k1)
      clear HP2 HF2 IC k1 
      obtain ⟨s42, e1, h⟩ := mod_out HM.out
      have NC := Lib.hid (must_q HP3.out ({ data := #[61] }) e1)
      replace HM := Lib.hid h
      clear h e1
      go_wp2_with fail
      refine NC.out.mono ?_
      rintro e w43 ⟨rfl, R44, hp, hf⟩
      have HP4 := Lib.hid hp
      have HF4 := Lib.hid (HF3.out.trans hf)
      clear HP3 HF3 hp hf NC 
      obtain ⟨z, s45, hm, h⟩ := bind_out HM.out
      have NC := Lib.hid (RIGHT _ _ _ _ _ hm HP4.out)
      replace HM := Lib.hid h
      clear h hm
      go_wp2_with fail
      refine NC.out.mono ?_
      rintro e w46 ⟨rfl, R47, hp, hf⟩
      have HP5 := Lib.hid hp
      have HF5 := Lib.hid (HF4.out.trans hf)
      clear HP4 HF4 hp hf NC 
      obtain ⟨s48, e1, h⟩ := mod_out HM.out
      have NC := Lib.hid (must_q HP5.out ({ data := #[59] }) e1)
      replace HM := Lib.hid h
      clear h e1
      go_wp2_with fail
      refine NC.out.mono ?_
      rintro e w49 ⟨rfl, R50, hp, hf⟩
      have HP6 := Lib.hid hp
      have HF6 := Lib.hid (HF5.out.trans hf)
      clear HP5 HF5 hp hf NC 
      have NC := Lib.hid ((putC P src T).one HP6.out (11) (ln) (0) (x) z HM.out)
      go_wp2_with fail
      refine NC.out.mono ?_
      rintro e w51 ⟨rfl, R52, hp, hf⟩
      have HP7 := Lib.hid hp
      have HF7 := Lib.hid (HF6.out.trans hf)
      clear HP6 HF6 hp hf NC 
      go_wp2_with fail
      go_ret
      exact ⟨rfl, _, HP7.out, HF7.out⟩
end Go.Proofs.YtgelggdgbmldiaaDoor
