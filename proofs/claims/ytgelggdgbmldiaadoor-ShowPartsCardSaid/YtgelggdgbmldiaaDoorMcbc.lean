/-
  Layer 2: the document's reader: block. Written by an AI agent.
-/
import Derived.Lib.Bytealg
import Derived.Test.YtgelggdgbmldiaaDoorChecked
import Derived.Laws.OwnMore
import Derived.Laws.AppendOwnNone
import Derived.OwnWalk
import Derived.Lib.AppendZerosOnto
import Derived.Below
import Derived.Stop.Walk2
import Derived.WalkKit
import Derived.WalkLawsBesides
import Derived.WalkSpells
import Derived.Outline
import Derived.BigQuiet
import Derived.Deep.CutBlock
import Derived.Deep.CutRange
import Derived.Deep.DeepCutAuto
import Derived.Deep.RegionHeld3
import Derived.Deep.RegionLaw
import Derived.Deep.RegionWith
import Derived.StillTailTactics
import Derived.RegionTactic
import Derived.Laws.StructEq
import Derived.Lib.Hide
import Derived.Shelf.Abstract
import Derived.Shelf.Lay
import Derived.Ground.NamesProg
import Derived.Shelf.Strings.Prefix
import Derived.Shelf.Small.Strs
import Derived.Shelf.Strings.Count
import Derived.Shelf.Strconv.ErrVarParseInt
import Derived.WalkMore
import Derived.Scope
import Derived.Shelf.Slices.Turned
import Derived.Lib.SlicesS
import Derived.Deep.RegionHeld
import Derived.Deep.LoopGhost
import Derived.Shelf.Strconv.AtoiAll
import Derived.Test.YtgelggdgbmldiaaDoorMcaa
import Derived.Test.YtgelggdgbmldiaaDoorMcac
import Derived.Test.YtgelggdgbmldiaaDoorMcad
import Derived.Test.YtgelggdgbmldiaaDoorMcag
import Derived.Test.YtgelggdgbmldiaaDoorMcah
import Derived.Test.YtgelggdgbmldiaaDoorMcas
import Derived.Test.YtgelggdgbmldiaaDoorMcat
import Derived.Test.YtgelggdgbmldiaaDoorMcau
import Derived.Test.YtgelggdgbmldiaaDoorMcav
import Derived.Test.YtgelggdgbmldiaaDoorMcaw
import Derived.Test.YtgelggdgbmldiaaDoorMcax
import Derived.Test.YtgelggdgbmldiaaDoorMcay
import Derived.Test.YtgelggdgbmldiaaDoorMcaz
import Derived.Test.YtgelggdgbmldiaaDoorMcba
import Derived.Test.YtgelggdgbmldiaaDoorMcbb
namespace Go.Proofs.YtgelggdgbmldiaaDoor
open Go Go.RowKit Go.Shelf
set_option linter.unusedVariables false
set_option linter.unusedSimpArgs false
set_option maxRecDepth 100000 in
set_option maxHeartbeats 16000000 in
theorem rblock_any {P : Nat} {src : ByteArray} {T : List Tok} {N : Nat} {st : PM Int} (hsz : src.size ≤ 1000) (hN : N ≤ 100000) (ST : RexC P src T 97 st) : RexC P src T 63 (rblockM src.data.toList T N st) := by
  intro s r s' R w h hp
  obtain ⟨i0, hi0, hz0, hz1, hz2⟩ := info_parts info_int
  have HP0 := Lib.hid hp
  have HF0 := Lib.hid (Fr.refl R w)
  have HLO := Lib.hid hp.lo
  have HM := Lib.hid h
  clear h hp
  go_enter Tryd.func63, Tryd.ntmps63
  obtain ⟨ln, hln, h⟩ := ask_out HM.out
  have LC := Lib.hid (rline_q hsz HP0.out hln)
  replace HM := Lib.hid h
  clear h hln
  go_wp2_with fail
  refine LC.out.mono ?_
  rintro e w1 ⟨rfl, k1⟩
  have HP1 := Lib.hid (HP0.out.keep k1)
  have HF1 := Lib.hid (HF0.out.keeps k1)
  clear HP0 HF0 LC k1 
  obtain ⟨b, hb, h⟩ := ask_out HM.out
  have IC := Lib.hid (ris_q HP1.out ({ data := #[123] }) hb)
  replace HM := Lib.hid h
  clear h hb
  cases b with
  | true =>
    have h := HM.out
    rw [if_pos rfl] at h
    replace HM := Lib.hid h
    clear h
    go_wp2_with fail
    refine IC.out.mono ?_
    rintro e w2 ⟨rfl, k1⟩
    have HP2 := Lib.hid (HP1.out.keep k1)
    have HF2 := Lib.hid (HF1.out.keeps k1)
    clear HP1 HF1 IC k1 
    obtain ⟨u, s3, hm, h⟩ := bind_out HM.out
    have NC := Lib.hid (rdown_any HP2.out hm)
    replace HM := Lib.hid h
    clear h hm
    go_wp2_with fail
    refine NC.out.mono ?_
    rintro e w4 ⟨rfl, R5, hp, hf⟩
    have HP3 := Lib.hid hp
    have HF3 := Lib.hid (HF2.out.trans hf)
    clear HP2 HF2 hp hf NC 
    obtain ⟨s6, e1, h⟩ := mod_out HM.out
    have NC := Lib.hid (must_q HP3.out ({ data := #[123] }) e1)
    replace HM := Lib.hid h
    clear h e1
    go_wp2_with fail
    refine NC.out.mono ?_
    rintro e w7 ⟨rfl, R8, hp, hf⟩
    have HP4 := Lib.hid hp
    have HF4 := Lib.hid (HF3.out.trans hf)
    clear HP3 HF3 hp hf NC 
    go_upto_region 9 with fail
    have ka := Keeps.one w7 (.cells #[] 3)
    obtain ⟨B10, hB⟩ : ∃ B10, B10 = w7.heap.size := ⟨_, rfl⟩
    obtain ⟨w9, hw⟩ : ∃ w9, w9 = w7.alloc (.cells #[] 3) := ⟨_, rfl⟩
    have HB5 : Hid (w9.ownsRow 0 3 1 (.slice (some ⟨B10, 0, none⟩) 0 0) 0 (valI []) ∧ ∀ g, (Value.slice (some ⟨B10, 0, none⟩) 0 0).ownBlock = some g → ¬ R8 g ∧ w.heap.size ≤ g) := Lib.hid ⟨by rw [hw, hB]; exact World.ownsRow_made w7 #[] 0 (Nat.zero_le _) (by decide) rfl, fun g hg => by cases hg; rw [hB]; exact ⟨HP4.out.new, HF4.out.1.size⟩⟩
    rw [← hB]
    rw [← hw] at ka ⊢
    have HP5 := Lib.hid (HP4.out.keep ka)
    have HF5 := Lib.hid (HF4.out.keeps ka)
    clear HP4 HF4 ka hw hB
    obtain ⟨L, sL, hm, h⟩ := bind_out HM.out
    have HA := Lib.hid hm
    replace HM := Lib.hid h
    clear h hm
    go_loopg [5, 6, 7] N (fun k s5 s6 s7 wr => ∃ (l : List Int) (A : Option Addr) (n c : Nat) (sk : PS) (Rk : Nat → Prop), s5 = .slice A n c ∧ n = l.length ∧ n + k ≤ N + 1 ∧ rstmsR T st k l sk = some (L, sL) ∧ Red wr P src T Rk sk ∧ Fr R w Rk wr ∧ (wr.ownsRow 0 3 1 (.slice A n c) n (valI l) ∧ ∀ g, (Value.slice A n c).ownBlock = some g → ¬ Rk g ∧ w.heap.size ≤ g))
    case atStart => exact ⟨[], _, 0, _, _, _, rfl, rfl, by omega, HA.out, HP5.out, HF5.out, HB5.out⟩
    case round =>
      obtain ⟨l, A, n, c, sk, Rk, rfl, hnl, hnk, hm, hp, hf, hb⟩ := hrel
      clear HP5 HF5 HB5 HA
      cases gk with
      | zero =>
        have h0 : (none : Option (List Int × PS)) = some (L, sL) := hm
        cases h0
      | succ k =>
        unfold rstmsR at hm
        have c5 := hp.see.c5
        obtain ⟨b, hb2, hm⟩ := ask_out hm
        have HP0 := Lib.hid hp
        have HF0 := Lib.hid hf
        have HB0 := Lib.hid hb
        have HA := Lib.hid hm
        have HNL := Lib.hid hnl
        have HNK := Lib.hid hnk
        have hn2 : n ≤ 100001 := by omega
        clear hp hf hb hm hnl hnk
        by_cases he : sk.er = 0
        · skip
          rw [he] at c5
          obtain ⟨b1, hb1⟩ : ∃ b1, b1 = isR T [125] sk := ⟨_, rfl⟩
          have hbb : b = !b1 := by rw [hb2, decide_eq_true he, hb1]; rfl
          subst hbb
          have IC := Lib.hid (ris_q HP0.out ({ data := #[125] }) hb1)
          clear hb1 he hb2
          cases b1 with
          | true =>
            go_wp2_with fail
            refine IC.out.mono ?_
            rintro e w11 ⟨rfl, k1⟩
            have HP1 := Lib.hid (HP0.out.keep k1)
            have HF1 := Lib.hid (HF0.out.keeps k1)
            have HB1 := Lib.hid (own_keep HB0.out.1 ((Fr.refl Rk wr).keeps k1) HB0.out.2)
            clear HP0 HF0 HB0 IC k1 c5
            go_upto_region 14 with fail
            have h := HA.out
            rw [if_neg (by decide)] at h
            obtain ⟨q1, q2⟩ := pure_end h
            subst q1
            subst q2
            clear HA h
            obtain ⟨s12, e1, h⟩ := mod_out HM.out
            have NC := Lib.hid (must_q HP1.out ({ data := #[125] }) e1)
            replace HM := Lib.hid h
            clear h e1
            go_wp2_with fail
            refine NC.out.mono ?_
            rintro e w13 ⟨rfl, R14, hp, hf⟩
            have HP2 := Lib.hid hp
            have HF2 := Lib.hid (HF1.out.trans hf)
            have HB2 := Lib.hid (own_keep HB1.out.1 hf HB1.out.2)
            clear HP1 HF1 HB1 hp hf NC 
            obtain ⟨u, s15, hm, h⟩ := bind_out HM.out
            obtain ⟨hd, e1⟩ := deep_out hm
            replace HM := Lib.hid h
            have hs := HP2.out.see
            have c4 := hs.c4
            have f4 := hs.fz 4
            have hw := IntWalk.i64_in (s12.dp - 1) (by omega)
            have hset := HP2.out.setDp (s12.dp - 1)
            have HP3 : Hid (Red (w13.setCell ⟨P, 4, none⟩ (.int .i64 (s12.dp - 1))) P src T R14 s15) := Lib.hid (by rw [e1]; exact hset.1)
            have HF3 := Lib.hid (HF2.out.trans hset.2)
            have HB3 := Lib.hid (own_keep HB2.out.1 hset.2 HB2.out.2)
            clear h hm e1 hs hset HP2 HF2 HB2
            generalize s12.dp = dp at *
            go_upto_region 16 with fail
            generalize w13.setCell ⟨P, 4, none⟩ (.int .i64 (dp - 1)) = w16 at *
            clear c4 f4 hw hd
            have NC := Lib.hid ((putC P src T).row HP3.out (18) (ln) (0) ([]) L (HNL.out) HB3.out.1 HF3.out HLO.out HB3.out.2 HM.out)
            go_wp2_with fail
            refine NC.out.mono ?_
            rintro e w17 ⟨rfl, R18, hp, hf⟩
            have HZ : Hid (∃ R', Red w17 P src T R' s' ∧ Fr R w R' w17) := Lib.hid ⟨_, hp, hf⟩
            clear hp hf NC 
            go_wp2_with fail
            go_ret
            exact ⟨rfl, HZ.out⟩
          | false =>
            go_wp2_with fail
            refine IC.out.mono ?_
            rintro e w19 ⟨rfl, k1⟩
            have HP1 := Lib.hid (HP0.out.keep k1)
            have HF1 := Lib.hid (HF0.out.keeps k1)
            have HB1 := Lib.hid (own_keep HB0.out.1 ((Fr.refl Rk wr).keeps k1) HB0.out.2)
            clear HP0 HF0 HB0 IC k1 c5
            have h := HA.out
            rw [if_pos (by rfl)] at h
            replace HA := Lib.hid h
            clear h
            obtain ⟨y, s20, hm, h⟩ := bind_out HA.out
            have NC := Lib.hid (ST _ _ _ _ _ hm HP1.out)
            replace HA := Lib.hid h
            clear h hm
            go_wp2_with fail
            refine NC.out.mono ?_
            rintro e w21 ⟨rfl, R22, hp, hf⟩
            have HP2 := Lib.hid hp
            have HF2 := Lib.hid (HF1.out.trans hf)
            have HB2 := Lib.hid (own_keep HB1.out.1 hf HB1.out.2)
            clear HP1 HF1 HB1 hp hf NC 
            go_wp2_with (at_builtin; refine wpList_append_atk rfl (.tmp 31) (.tmp 33) 31 rfl 0 3 i0 _ 1 8 Tryd.underlying31 hi0 hz0 hz1 hz2 (by rfl) (by omega) (.slice A n c) (n) (valI l) (by rfl) (ownsRow_keep HB2.out.1 (fun g hg => (Keeps.one w21 _).block g (own_ltk HB2.out.1 hg) (fun h => h))) ⟨w21.heap.size, 0, none⟩ 1 1 (valI [y]) (by rfl) (by rfl) (newsI y _) (valI_one _) (by omega) (by omega) (Nat.zero_le _) ?_; intro v5 w23 h5 g5 b5; obtain ⟨A24, c25, rfl⟩ := own_formk h5; have hmm := own_moreR HP2.out HF2.out HLO.out HB2.out.2 (Keeps.one w21 (.cells #[.int .i64 y] 3)) g5 b5; have HP3 := Lib.hid hmm.1; have HF3 := Lib.hid hmm.2.1; have HB3 : Hid (w23.ownsRow 0 3 1 (.slice A24 (n + 1) c25) (n + 1) (valI (l ++ [y])) ∧ ∀ g, (Value.slice A24 (n + 1) c25).ownBlock = some g → ¬ R22 g ∧ w.heap.size ≤ g) := Lib.hid (And.intro (row_app h5) hmm.2.2.1); clear hmm h5 g5 b5 HP2 HF2 HB2)
            go_roundg k
            case measure => omega
            case rel => exact ⟨l ++ [y], _, n + 1, _, _, _, rfl, by rw [List.length_append, ← HNL.out]; rfl, by have := HNK.out; omega, HA.out, HP3.out, HF3.out, HB3.out⟩
        · skip
          have heI : ¬ (sk.er : Int) = 0 := by omega
          have hd : ((sk.er : Int) == 0) = false := by simpa using heI
          have hbb : b = false := by rw [hb2, decide_eq_false he]; rfl
          subst hbb
          generalize (sk.er : Int) = er at c5 heI hd
          clear hb2 he
          go_upto_region 14 with fail
          clear c5 heI hd
          have h := HA.out
          rw [if_neg (by decide)] at h
          obtain ⟨q1, q2⟩ := pure_end h
          subst q1
          subst q2
          clear HA h
          obtain ⟨s26, e1, h⟩ := mod_out HM.out
          have NC := Lib.hid (must_q HP0.out ({ data := #[125] }) e1)
          replace HM := Lib.hid h
          clear h e1
          go_wp2_with fail
          refine NC.out.mono ?_
          rintro e w27 ⟨rfl, R28, hp, hf⟩
          have HP1 := Lib.hid hp
          have HF1 := Lib.hid (HF0.out.trans hf)
          have HB1 := Lib.hid (own_keep HB0.out.1 hf HB0.out.2)
          clear HP0 HF0 HB0 hp hf NC 
          obtain ⟨u, s29, hm, h⟩ := bind_out HM.out
          obtain ⟨hd, e1⟩ := deep_out hm
          replace HM := Lib.hid h
          have hs := HP1.out.see
          have c4 := hs.c4
          have f4 := hs.fz 4
          have hw := IntWalk.i64_in (s26.dp - 1) (by omega)
          have hset := HP1.out.setDp (s26.dp - 1)
          have HP2 : Hid (Red (w27.setCell ⟨P, 4, none⟩ (.int .i64 (s26.dp - 1))) P src T R28 s29) := Lib.hid (by rw [e1]; exact hset.1)
          have HF2 := Lib.hid (HF1.out.trans hset.2)
          have HB2 := Lib.hid (own_keep HB1.out.1 hset.2 HB1.out.2)
          clear h hm e1 hs hset HP1 HF1 HB1
          generalize s26.dp = dp at *
          go_upto_region 16 with fail
          generalize w27.setCell ⟨P, 4, none⟩ (.int .i64 (dp - 1)) = w30 at *
          clear c4 f4 hw hd
          have NC := Lib.hid ((putC P src T).row HP2.out (18) (ln) (0) ([]) L (HNL.out) HB2.out.1 HF2.out HLO.out HB2.out.2 HM.out)
          go_wp2_with fail
          refine NC.out.mono ?_
          rintro e w31 ⟨rfl, R32, hp, hf⟩
          have HZ : Hid (∃ R', Red w31 P src T R' s' ∧ Fr R w R' w31) := Lib.hid ⟨_, hp, hf⟩
          clear hp hf NC 
          go_wp2_with fail
          go_ret
          exact ⟨rfl, HZ.out⟩
  | false =>
    have h := HM.out
    rw [if_neg (by decide)] at h
    replace HM := Lib.hid h
    clear h
    go_wp2_with fail
    refine IC.out.mono ?_
    rintro e w33 ⟨rfl, k1⟩
    have HP2 := Lib.hid (HP1.out.keep k1)
    have HF2 := Lib.hid (HF1.out.keeps k1)
    clear HP1 HF1 IC k1 
    obtain ⟨s34, e1, h⟩ := mod_out HM.out
    have NC := Lib.hid (fails_q HP2.out 20 e1)
    replace HM := Lib.hid h
    clear h e1
    go_wp2_with fail
    refine NC.out.mono ?_
    rintro e w35 ⟨rfl, R36, hp, hf⟩
    have HP3 := Lib.hid hp
    have HF3 := Lib.hid (HF2.out.trans hf)
    clear HP2 HF2 hp hf NC 
    obtain ⟨q1, q2⟩ := pure_end HM.out
    subst q1
    subst q2
    go_wp2_with fail
    go_ret
    exact ⟨rfl, _, HP3.out, HF3.out⟩
/-- What statements tell, so deep at most. -/
theorem rst_any {P : Nat} {src : ByteArray} {T : List Tok} {N : Nat} (hsz : src.size ≤ 1000) (hN : N ≤ 100000) (n : Nat) : RexC P src T 97 (rstM src.data.toList T N n) := by
  induction n with
  | zero => exact fun s a s1 R w h => (by cases h)
  | succ n ih =>
    have EX : RexC P src T 119 (rexM src.data.toList T N 0) := rexpr_any ((rex_any hsz N).2 0 (by omega))
    have CALL := rcall_any (N := N) hsz hN EX
    exact rstatement_any hsz EX (rblock_any hsz hN ih) CALL (rright_any hsz EX CALL)
end Go.Proofs.YtgelggdgbmldiaaDoor
