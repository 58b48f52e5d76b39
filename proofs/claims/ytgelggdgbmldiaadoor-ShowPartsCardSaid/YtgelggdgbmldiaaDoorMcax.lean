/-
  Layer 2: the document's reader: factor. Written by an AI agent.
-/
import Derived.Lib.Bytealg
import Derived.Test.YtgelggdgbmldiaaDoorChecked
import Derived.Laws.OwnMore
import Derived.Laws.AppendOwnNone
import Derived.OwnWalk
import Derived.Lib.AppendZerosOnto
import Derived.Below
import Derived.Stop.Walk2
import Derived.WalkKit
import Derived.WalkLawsBesides
import Derived.WalkSpells
import Derived.Outline
import Derived.BigQuiet
import Derived.Deep.CutBlock
import Derived.Deep.CutRange
import Derived.Deep.DeepCutAuto
import Derived.Deep.RegionHeld3
import Derived.Deep.RegionLaw
import Derived.Deep.RegionWith
import Derived.StillTailTactics
import Derived.RegionTactic
import Derived.Laws.StructEq
import Derived.Lib.Hide
import Derived.Shelf.Abstract
import Derived.Shelf.Lay
import Derived.Ground.NamesProg
import Derived.Shelf.Strings.Prefix
import Derived.Shelf.Small.Strs
import Derived.Shelf.Strings.Count
import Derived.Shelf.Strconv.ErrVarParseInt
import Derived.WalkMore
import Derived.Scope
import Derived.Shelf.Slices.Turned
import Derived.Lib.SlicesS
import Derived.Deep.RegionHeld
import Derived.Deep.LoopGhost
import Derived.Shelf.Strconv.AtoiAll
import Derived.Test.YtgelggdgbmldiaaDoorMcaa
import Derived.Test.YtgelggdgbmldiaaDoorMcac
import Derived.Test.YtgelggdgbmldiaaDoorMcad
import Derived.Test.YtgelggdgbmldiaaDoorMcag
import Derived.Test.YtgelggdgbmldiaaDoorMcas
import Derived.Test.YtgelggdgbmldiaaDoorMcat
import Derived.Test.YtgelggdgbmldiaaDoorMcau
import Derived.Test.YtgelggdgbmldiaaDoorMcav
import Derived.Test.YtgelggdgbmldiaaDoorMcaw
namespace Go.Proofs.YtgelggdgbmldiaaDoor
open Go Go.RowKit Go.Shelf
set_option linter.unusedVariables false
set_option linter.unusedSimpArgs false
set_option maxRecDepth 100000 in
set_option maxHeartbeats 16000000 in
theorem rfactor_any {P : Nat} {src : ByteArray} {T : List Tok} {fac ex : PM Int} (hsz : src.size ≤ 1000) (EX : RexC P src T 119 ex) (FAC : RexC P src T 148 fac) : RexC P src T 148 (rfactorM src.data.toList T fac ex) := by
  intro s r s' R w h hp
  have HP0 := Lib.hid hp
  have HF0 := Lib.hid (Fr.refl R w)
  have HLO := Lib.hid hp.lo
  have HM := Lib.hid h
  clear h hp
  go_enter Tryd.func148, Tryd.ntmps148
  obtain ⟨ln, hln, h⟩ := ask_out HM.out
  have LC := Lib.hid (rline_q hsz HP0.out hln)
  replace HM := Lib.hid h
  clear h hln
  go_wp2_with fail
  refine LC.out.mono ?_
  rintro e w1 ⟨rfl, k1⟩
  have HP1 := Lib.hid (HP0.out.keep k1)
  have HF1 := Lib.hid (HF0.out.keeps k1)
  clear HP0 HF0 LC k1 
  obtain ⟨b, hb, h⟩ := ask_out HM.out
  have IC := Lib.hid (ris_q HP1.out ({ data := #[45] }) hb)
  replace HM := Lib.hid h
  clear h hb
  cases b with
  | true =>
    go_wp2_with fail
    refine IC.out.mono ?_
    rintro e w2 ⟨rfl, k1⟩
    have HP2 := Lib.hid (HP1.out.keep k1)
    have HF2 := Lib.hid (HF1.out.keeps k1)
    clear HP1 HF1 IC k1 
    obtain ⟨b, hb, h⟩ := ask_out HM.out
    have IC := Lib.hid (ris_q HP2.out ({ data := #[33] }) hb)
    replace HM := Lib.hid h
    clear h hb
    cases b with
    | true =>
      go_wp2_with fail
      refine IC.out.mono ?_
      rintro e w3 ⟨rfl, k1⟩
      have HP3 := Lib.hid (HP2.out.keep k1)
      have HF3 := Lib.hid (HF2.out.keeps k1)
      clear HP2 HF2 IC k1 
      have h := HM.out
      rw [if_pos (show (true || true) = true from rfl)] at h
      replace HM := Lib.hid h
      clear h
      obtain ⟨u, s4, hm, h⟩ := bind_out HM.out
      have NC := Lib.hid (rdown_any HP3.out hm)
      replace HM := Lib.hid h
      clear h hm
      go_wp2_with fail
      refine NC.out.mono ?_
      rintro e w5 ⟨rfl, R6, hp, hf⟩
      have HP4 := Lib.hid hp
      have HF4 := Lib.hid (HF3.out.trans hf)
      clear HP3 HF3 hp hf NC 
      go_upto_region 7 with fail
      obtain ⟨u, s7, hm, h⟩ := bind_out HM.out
      obtain ⟨hi, e1⟩ := go_out hm
      replace HM := Lib.hid h
      obtain ⟨ew, c2, f2, hp, hf⟩ := HP4.out.stepAt hi
      have HP5 : Hid (Red (w5.setCell ⟨P, 2, none⟩ (.int .i64 ((s4.i : Int) + 1))) P src T R6 s7) := Lib.hid (by rw [e1]; exact hp)
      have HF5 := Lib.hid (HF4.out.trans hf)
      clear h hm e1 hi hp hf HP4 HF4
      generalize (s4.i : Int) = ii at *
      go_upto_region 8 with fail
      generalize w5.setCell ⟨P, 2, none⟩ (.int .i64 (ii + 1)) = w8 at *
      clear c2 f2 ew
      obtain ⟨a, s9, hm, h⟩ := bind_out HM.out
      have NC := Lib.hid (FAC _ _ _ _ _ hm HP5.out)
      replace HM := Lib.hid h
      clear h hm
      go_wp2_with fail
      refine NC.out.mono ?_
      rintro e w10 ⟨rfl, R11, hp, hf⟩
      have HP6 := Lib.hid hp
      have HF6 := Lib.hid (HF5.out.trans hf)
      clear HP5 HF5 hp hf NC 
      obtain ⟨u, s12, hm, h⟩ := bind_out HM.out
      obtain ⟨hd, e1⟩ := deep_out hm
      replace HM := Lib.hid h
      have hs := HP6.out.see
      have c4 := hs.c4
      have f4 := hs.fz 4
      have hw := IntWalk.i64_in (s9.dp - 1) (by omega)
      have hset := HP6.out.setDp (s9.dp - 1)
      have HP7 : Hid (Red (w10.setCell ⟨P, 4, none⟩ (.int .i64 (s9.dp - 1))) P src T R11 s12) := Lib.hid (by rw [e1]; exact hset.1)
      have HF7 := Lib.hid (HF6.out.trans hset.2)
      clear h hm e1 hs hset HP6 HF6
      generalize s9.dp = dp at *
      go_upto_region 10 with fail
      generalize w10.setCell ⟨P, 4, none⟩ (.int .i64 (dp - 1)) = w13 at *
      clear c4 f4 hw hd
      have h := HM.out
      first | rw [if_pos rfl] at h | rw [if_pos trivial] at h
      replace HM := Lib.hid h
      clear h
      have NC := Lib.hid ((putC P src T).one HP7.out (7) (ln) (0) ([]) a HM.out)
      go_wp2_with fail
      refine NC.out.mono ?_
      rintro e w14 ⟨rfl, R15, hp, hf⟩
      have HP8 := Lib.hid hp
      have HF8 := Lib.hid (HF7.out.trans hf)
      clear HP7 HF7 hp hf NC 
      go_wp2_with fail
      go_ret
      exact ⟨rfl, _, HP8.out, HF8.out⟩
    | false =>
      go_wp2_with fail
      refine IC.out.mono ?_
      rintro e w16 ⟨rfl, k1⟩
      have HP3 := Lib.hid (HP2.out.keep k1)
      have HF3 := Lib.hid (HF2.out.keeps k1)
      clear HP2 HF2 IC k1 
      have h := HM.out
      rw [if_pos (show (true || false) = true from rfl)] at h
      replace HM := Lib.hid h
      clear h
      obtain ⟨u, s17, hm, h⟩ := bind_out HM.out
      have NC := Lib.hid (rdown_any HP3.out hm)
      replace HM := Lib.hid h
      clear h hm
      go_wp2_with fail
      refine NC.out.mono ?_
      rintro e w18 ⟨rfl, R19, hp, hf⟩
      have HP4 := Lib.hid hp
      have HF4 := Lib.hid (HF3.out.trans hf)
      clear HP3 HF3 hp hf NC 
      go_upto_region 7 with fail
      obtain ⟨u, s20, hm, h⟩ := bind_out HM.out
      obtain ⟨hi, e1⟩ := go_out hm
      replace HM := Lib.hid h
      obtain ⟨ew, c2, f2, hp, hf⟩ := HP4.out.stepAt hi
      have HP5 : Hid (Red (w18.setCell ⟨P, 2, none⟩ (.int .i64 ((s17.i : Int) + 1))) P src T R19 s20) := Lib.hid (by rw [e1]; exact hp)
      have HF5 := Lib.hid (HF4.out.trans hf)
      clear h hm e1 hi hp hf HP4 HF4
      generalize (s17.i : Int) = ii at *
      go_upto_region 8 with fail
      generalize w18.setCell ⟨P, 2, none⟩ (.int .i64 (ii + 1)) = w21 at *
      clear c2 f2 ew
      obtain ⟨a, s22, hm, h⟩ := bind_out HM.out
      have NC := Lib.hid (FAC _ _ _ _ _ hm HP5.out)
      replace HM := Lib.hid h
      clear h hm
      go_wp2_with fail
      refine NC.out.mono ?_
      rintro e w23 ⟨rfl, R24, hp, hf⟩
      have HP6 := Lib.hid hp
      have HF6 := Lib.hid (HF5.out.trans hf)
      clear HP5 HF5 hp hf NC 
      obtain ⟨u, s25, hm, h⟩ := bind_out HM.out
      obtain ⟨hd, e1⟩ := deep_out hm
      replace HM := Lib.hid h
      have hs := HP6.out.see
      have c4 := hs.c4
      have f4 := hs.fz 4
      have hw := IntWalk.i64_in (s22.dp - 1) (by omega)
      have hset := HP6.out.setDp (s22.dp - 1)
      have HP7 : Hid (Red (w23.setCell ⟨P, 4, none⟩ (.int .i64 (s22.dp - 1))) P src T R24 s25) := Lib.hid (by rw [e1]; exact hset.1)
      have HF7 := Lib.hid (HF6.out.trans hset.2)
      clear h hm e1 hs hset HP6 HF6
      generalize s22.dp = dp at *
      go_upto_region 10 with fail
      generalize w23.setCell ⟨P, 4, none⟩ (.int .i64 (dp - 1)) = w26 at *
      clear c4 f4 hw hd
      have h := HM.out
      first | rw [if_pos rfl] at h | rw [if_pos trivial] at h
      replace HM := Lib.hid h
      clear h
      have NC := Lib.hid ((putC P src T).one HP7.out (7) (ln) (0) ([]) a HM.out)
      go_wp2_with fail
      refine NC.out.mono ?_
      rintro e w27 ⟨rfl, R28, hp, hf⟩
      have HP8 := Lib.hid hp
      have HF8 := Lib.hid (HF7.out.trans hf)
      clear HP7 HF7 hp hf NC 
      go_wp2_with fail
      go_ret
      exact ⟨rfl, _, HP8.out, HF8.out⟩
  | false =>
    go_wp2_with fail
    refine IC.out.mono ?_
    rintro e w29 ⟨rfl, k1⟩
    have HP2 := Lib.hid (HP1.out.keep k1)
    have HF2 := Lib.hid (HF1.out.keeps k1)
    clear HP1 HF1 IC k1 
    obtain ⟨b, hb, h⟩ := ask_out HM.out
    have IC := Lib.hid (ris_q HP2.out ({ data := #[33] }) hb)
    replace HM := Lib.hid h
    clear h hb
    cases b with
    | true =>
      go_wp2_with fail
      refine IC.out.mono ?_
      rintro e w30 ⟨rfl, k1⟩
      have HP3 := Lib.hid (HP2.out.keep k1)
      have HF3 := Lib.hid (HF2.out.keeps k1)
      clear HP2 HF2 IC k1 
      have h := HM.out
      rw [if_pos (show (false || true) = true from rfl)] at h
      replace HM := Lib.hid h
      clear h
      obtain ⟨u, s31, hm, h⟩ := bind_out HM.out
      have NC := Lib.hid (rdown_any HP3.out hm)
      replace HM := Lib.hid h
      clear h hm
      go_wp2_with fail
      refine NC.out.mono ?_
      rintro e w32 ⟨rfl, R33, hp, hf⟩
      have HP4 := Lib.hid hp
      have HF4 := Lib.hid (HF3.out.trans hf)
      clear HP3 HF3 hp hf NC 
      go_upto_region 7 with fail
      obtain ⟨u, s34, hm, h⟩ := bind_out HM.out
      obtain ⟨hi, e1⟩ := go_out hm
      replace HM := Lib.hid h
      obtain ⟨ew, c2, f2, hp, hf⟩ := HP4.out.stepAt hi
      have HP5 : Hid (Red (w32.setCell ⟨P, 2, none⟩ (.int .i64 ((s31.i : Int) + 1))) P src T R33 s34) := Lib.hid (by rw [e1]; exact hp)
      have HF5 := Lib.hid (HF4.out.trans hf)
      clear h hm e1 hi hp hf HP4 HF4
      generalize (s31.i : Int) = ii at *
      go_upto_region 8 with fail
      generalize w32.setCell ⟨P, 2, none⟩ (.int .i64 (ii + 1)) = w35 at *
      clear c2 f2 ew
      obtain ⟨a, s36, hm, h⟩ := bind_out HM.out
      have NC := Lib.hid (FAC _ _ _ _ _ hm HP5.out)
      replace HM := Lib.hid h
      clear h hm
      go_wp2_with fail
      refine NC.out.mono ?_
      rintro e w37 ⟨rfl, R38, hp, hf⟩
      have HP6 := Lib.hid hp
      have HF6 := Lib.hid (HF5.out.trans hf)
      clear HP5 HF5 hp hf NC 
      obtain ⟨u, s39, hm, h⟩ := bind_out HM.out
      obtain ⟨hd, e1⟩ := deep_out hm
      replace HM := Lib.hid h
      have hs := HP6.out.see
      have c4 := hs.c4
      have f4 := hs.fz 4
      have hw := IntWalk.i64_in (s36.dp - 1) (by omega)
      have hset := HP6.out.setDp (s36.dp - 1)
      have HP7 : Hid (Red (w37.setCell ⟨P, 4, none⟩ (.int .i64 (s36.dp - 1))) P src T R38 s39) := Lib.hid (by rw [e1]; exact hset.1)
      have HF7 := Lib.hid (HF6.out.trans hset.2)
      clear h hm e1 hs hset HP6 HF6
      generalize s36.dp = dp at *
      go_upto_region 10 with fail
      generalize w37.setCell ⟨P, 4, none⟩ (.int .i64 (dp - 1)) = w40 at *
      clear c4 f4 hw hd
      have h := HM.out
      first | rw [if_neg (show ¬ false = true by decide)] at h | rw [if_neg (show ¬ False by decide)] at h
      replace HM := Lib.hid h
      clear h
      have NC := Lib.hid ((putC P src T).one HP7.out (8) (ln) (0) ([]) a HM.out)
      go_wp2_with fail
      refine NC.out.mono ?_
      rintro e w41 ⟨rfl, R42, hp, hf⟩
      have HP8 := Lib.hid hp
      have HF8 := Lib.hid (HF7.out.trans hf)
      clear HP7 HF7 hp hf NC 
      go_wp2_with fail
      go_ret
      exact ⟨rfl, _, HP8.out, HF8.out⟩
    | false =>
      go_wp2_with fail
      refine IC.out.mono ?_
      rintro e w43 ⟨rfl, k1⟩
      have HP3 := Lib.hid (HP2.out.keep k1)
      have HF3 := Lib.hid (HF2.out.keeps k1)
      clear HP2 HF2 IC k1 
      have h := HM.out
      rw [if_neg (show ¬ (false || false) = true by decide)] at h
      replace HM := Lib.hid h
      clear h
      have NC := Lib.hid (ratom_any hsz EX _ _ _ _ _ HM.out HP3.out)
      go_wp2_with fail
      refine NC.out.mono ?_
      rintro e w44 ⟨rfl, R45, hp, hf⟩
      have HP4 := Lib.hid hp
      have HF4 := Lib.hid (HF3.out.trans hf)
      clear HP3 HF3 hp hf NC 
      go_wp2_with fail
      go_ret
      exact ⟨rfl, _, HP4.out, HF4.out⟩
end Go.Proofs.YtgelggdgbmldiaaDoor
