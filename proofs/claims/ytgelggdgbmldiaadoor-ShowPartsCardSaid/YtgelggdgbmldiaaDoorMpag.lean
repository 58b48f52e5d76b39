/-
  Layer 3: ShowParts. Written by an AI agent.
-/
import Derived.Lib.Bytealg
import Derived.Lib.ItoaNum
import Derived.Lib.ItoaMem
import Derived.Test.YtgelggdgbmldiaaDoorChecked
import Derived.Laws.OwnMore
import Derived.Laws.AppendOwnNone
import Derived.OwnWalk
import Derived.Lib.AppendZerosOnto
import Derived.Below
import Derived.Stop.Walk2
import Derived.WalkKit
import Derived.WalkLawsBesides
import Derived.WalkSpells
import Derived.Outline
import Derived.BigQuiet
import Derived.Deep.CutBlock
import Derived.Deep.CutRange
import Derived.Deep.DeepCutAuto
import Derived.Deep.RegionHeld3
import Derived.Deep.RegionLaw
import Derived.Deep.RegionWith
import Derived.StillTailTactics
import Derived.RegionTactic
import Derived.Laws.StructEq
import Derived.Lib.Hide
import Derived.Shelf.Abstract
import Derived.Shelf.Lay
import Derived.Ground.NamesProg
import Derived.Shelf.Strings.Prefix
import Derived.Shelf.Small.Strs
import Derived.Shelf.Strings.Count
import Derived.Shelf.Strconv.ErrVarParseInt
import Derived.WalkMore
import Derived.Scope
import Derived.Shelf.Slices.Turned
import Derived.Lib.SlicesS
import Derived.Deep.RegionHeld
import Derived.Deep.LoopGhost
import Derived.Deep.Light
import Derived.Shelf.Strconv.Itoa3
import Derived.Lib.LaidTab
import Derived.Lib.ItoaLen
import Derived.Maps.Own
import Derived.Maps.OwnOps
import Derived.StringKeys
import Derived.Shelf.Strings.OnBuilder
import Derived.Shelf.Strings.BuilderCap
import Derived.Shelf.Strings.BuilderK
import Derived.Shelf.Strconv.AtoiAll
import Derived.Deep.OwnRows
import Derived.Test.YtgelggdgbmldiaaDoorMcaa
import Derived.Test.YtgelggdgbmldiaaDoorMcab
import Derived.Test.YtgelggdgbmldiaaDoorMcac
import Derived.Test.YtgelggdgbmldiaaDoorMcad
import Derived.Test.YtgelggdgbmldiaaDoorMcae
import Derived.Test.YtgelggdgbmldiaaDoorMcaf
import Derived.Test.YtgelggdgbmldiaaDoorMcag
import Derived.Test.YtgelggdgbmldiaaDoorMcah
import Derived.Test.YtgelggdgbmldiaaDoorMcai
import Derived.Test.YtgelggdgbmldiaaDoorMcaj
import Derived.Test.YtgelggdgbmldiaaDoorMcak
import Derived.Test.YtgelggdgbmldiaaDoorMcal
import Derived.Test.YtgelggdgbmldiaaDoorMcam
import Derived.Test.YtgelggdgbmldiaaDoorMcan
import Derived.Test.YtgelggdgbmldiaaDoorMcao
import Derived.Test.YtgelggdgbmldiaaDoorMcap
import Derived.Test.YtgelggdgbmldiaaDoorMcaq
import Derived.Test.YtgelggdgbmldiaaDoorMcar
import Derived.Test.YtgelggdgbmldiaaDoorMcas
import Derived.Test.YtgelggdgbmldiaaDoorMcat
import Derived.Test.YtgelggdgbmldiaaDoorMcau
import Derived.Test.YtgelggdgbmldiaaDoorMcav
import Derived.Test.YtgelggdgbmldiaaDoorMcaw
import Derived.Test.YtgelggdgbmldiaaDoorMcax
import Derived.Test.YtgelggdgbmldiaaDoorMcay
import Derived.Test.YtgelggdgbmldiaaDoorMcaz
import Derived.Test.YtgelggdgbmldiaaDoorMcba
import Derived.Test.YtgelggdgbmldiaaDoorMcbb
import Derived.Test.YtgelggdgbmldiaaDoorMcbc
import Derived.Test.YtgelggdgbmldiaaDoorMcbd
import Derived.Test.YtgelggdgbmldiaaDoorMcbe
import Derived.Test.YtgelggdgbmldiaaDoorMcbf
import Derived.Test.YtgelggdgbmldiaaDoorMcbg
import Derived.Test.YtgelggdgbmldiaaDoorMcbh
import Derived.Test.YtgelggdgbmldiaaDoorMcbi
import Derived.Test.YtgelggdgbmldiaaDoorMcbj
import Derived.Test.YtgelggdgbmldiaaDoorMcbk
import Derived.Test.YtgelggdgbmldiaaDoorMcbl
import Derived.Test.YtgelggdgbmldiaaDoorMcbm
import Derived.Test.YtgelggdgbmldiaaDoorMcbn
import Derived.Test.YtgelggdgbmldiaaDoorMcbo
import Derived.Test.YtgelggdgbmldiaaDoorMpaa
import Derived.Test.YtgelggdgbmldiaaDoorMpab
import Derived.Test.YtgelggdgbmldiaaDoorMpac
import Derived.Test.YtgelggdgbmldiaaDoorMpad
import Derived.Test.YtgelggdgbmldiaaDoorMpae
import Derived.Test.YtgelggdgbmldiaaDoorMpaf
namespace Go.Proofs.YtgelggdgbmldiaaDoor
open Go Go.RowKit Go.Shelf
set_option linter.unusedVariables false
set_option linter.unusedSimpArgs false
theorem rsrc_all (s : ByteArray) (res : Res) (h : allP 6100 s.data.toList = some res) (w : World) : Calls Tryd.prog 16 #[.string s] w fun e w' => ∃ A c A' c', e = .returned (.tuple #[.agg #[.slice A (ndsOf res).length c, .slice A' (fnsOf res).length c'], .int .i64 (atOf res : Int), .int .i64 (erOf res : Int)]) ∧ TreeR 0 w' A A' (ndsOf res) (fnsOf res) ∧ Keeps (fun _ => False) w w' := by
  by_cases hs : 600 < s.size
  · have h2 := h
    unfold allP at h2
    rw [if_pos (by rw [len_size]; exact hs)] at h2
    obtain rfl := Option.some.inj h2
    exact rsrc_big s hs w
  · exact rsrc_any s (by omega) res h w
/-- A tree of one function that prints an expression. -/
def TreeP (e : Ex) (nd : List Nd) : Prop := nd.map uz = flE e 0 ++ [⟨14, 0, 0, [], [((kE e : Nat) : Int)]⟩, ⟨18, 0, 0, [], [((kE e + 1 : Nat) : Int)]⟩]
theorem TreeP.len {e : Ex} {nd : List Nd} (h : TreeP e nd) : nd.length = kE e + 3 := by
  have := congrArg List.length h
  rw [List.length_map, List.length_append, flE_len] at this
  exact this
theorem TreeP.rep {e : Ex} {nd : List Nd} (h : TreeP e nd) {d : Int} (hw : WE 0 d e) : RepE qshow nd e ((kE e : Nat) : Int) := by
  have := rep_E (nd := nd) e 0 0 d hw ⟨[], _, by rw [List.nil_append]; exact h, rfl⟩
  rwa [Nat.zero_add] at this
theorem parts_res {e : Ex} {s : List UInt8} (h : Parts e s) : ∃ res, allP 6100 s = some res ∧ (erOf res = 4 ∨ erOf res = 0 ∧ TreeP e (ndsOf res)) := by
  rcases h with ⟨p, h⟩ | ⟨nd, fs, h, h2⟩
  · exact ⟨_, h, .inl rfl⟩
  · exact ⟨_, h, .inr ⟨rfl, h2⟩⟩
theorem parts_res2 {e : Ex} {s : List UInt8} (h : Parts2 e s) : ∃ res, allP 6100 s = some res ∧ (erOf res ≠ 0 ∨ erOf res = 0 ∧ TreeP e (ndsOf res)) := by
  rcases h with ⟨p, er, h0, h⟩ | ⟨nd, fs, h, h2⟩
  · exact ⟨_, h, .inl h0⟩
  · exact ⟨_, h, .inr ⟨rfl, h2⟩⟩
theorem ev_len {Q : List UInt8 → Prop} {nd : List Nd} (e : Ex) (i : Int) (h : RepE Q nd e i) (hm : massE e ≤ sumC nd) (hs : sumC nd ≤ 318000) : (showE e).length ≤ 318000 := by have := show_len e i h; omega
theorem kE_mass : ∀ e : Ex, kE e + 1 ≤ massE e := by
  intro e
  induction e with
  | int n => show 0 + 1 ≤ 60; omega
  | bool b => show 0 + 1 ≤ 60; omega
  | text s => show 0 + 1 ≤ s.length + 60; omega
  | var s => show 0 + 1 ≤ s.length + 60; omega
  | index s a ih => show kE a + 1 + 1 ≤ massE a + (s.length + 60); omega
  | len a ih => show kE a + 1 + 1 ≤ massE a + 60; omega
  | neg a ih => show kE a + 1 + 1 ≤ massE a + 60; omega
  | not a ih => show kE a + 1 + 1 ≤ massE a + 60; omega
  | bin s a b iha ihb => show kE a + 1 + (kE b + 1) + 1 ≤ massE a + massE b + (s.length + 60); omega
set_option maxRecDepth 100000 in
set_option maxHeartbeats 32000000 in
theorem showparts_walk (s0 : ByteArray) (w : World) (hw : ShW w) (HC : Hid (Calls Tryd.prog 15 #[] w fun e w' => e = .returned (.bool true) ∧ Keeps (fun _ => False) w w')) : Calls Tryd.prog 9 #[.string s0] w fun e w' => e = .returned (.bool true) ∧ Keeps (fun _ => False) w w' := by
  have HW := Lib.hid hw
  clear hw
  go_enter Tryd.func9, Tryd.ntmps9
  go_wp2_with fail
  refine HC.out.mono ?_
  rintro e w1 ⟨rfl, k1⟩
  have K1 := Lib.hid k1
  have SC := Lib.hid (short3_any s0 w1)
  clear HC k1
  go_wp2_with fail
  refine SC.out.mono ?_
  rintro e w2 ⟨⟨t, ht, rfl⟩, rfl⟩
  obtain ⟨res, hres⟩ := allP_some t.data.toList 6100 (Nat.le_refl _)
  have RC := Lib.hid (rsrc_any t (by omega) res hres w2)
  clear SC ht
  by_cases he0 : erOf res = 0
  · obtain ⟨nd, fs, rfl⟩ := er_tree hres he0
    obtain ⟨la, na, _⟩ := tree_out (Nat.le_refl _) hres
    have hnm := names_wt la na hres
    obtain ⟨ps, hwt⟩ := tree_wt hres
    obtain ⟨rfs, rok, rrep, rms⟩ := rep_of_wt hwt
    have HF : Fit nd fs := fit_of hres
    obtain ⟨m, hm⟩ : ∃ m, m = nd.length := ⟨_, rfl⟩
    obtain ⟨k, hk⟩ : ∃ k, k = fs.length := ⟨_, rfl⟩
    have hQ : ∀ s, qshow s → s.length ≤ 1000 := fun s h => h
    have hsum : sumC nd ≤ 318000 := by
      have h1 := sumC_le hQ nd hnm
      have h2 := HF.nds
      omega
    have hp3 : ∀ p ∈ ps, p.1.ps.length ≤ 3 := fun p hp => HF.prs p.1 (by show p.1 ∈ fs; rw [rfs]; exact List.mem_map.2 ⟨p, hp, rfl⟩)
    have hps : ps.length ≤ 6 := by have h1 : fs.length ≤ 6 := HF.fns; rw [rfs, List.length_map] at h1; exact h1
    have htl : (textT ps).length ≤ 350000 := by
      have h1 := textT_len hQ ps rok hp3 rrep
      omega
    have hmb : ∀ p ∈ ps, massB p.2 ≤ 800000 := fun p hp => by
      have h1 := massF_mem ps p hp
      omega
    have HRT : Hid (fs = ps.map Prod.fst ∧ (∀ p ∈ ps, FnOK qshow p.1) ∧ ∀ p ∈ ps, ∃ xs, At nd p.1.body 18 0 [] xs ∧ RepB qshow nd p.2 xs) := Lib.hid ⟨rfs, rok, rrep⟩
    have HWT := Lib.hid hwt
    have HSUM := Lib.hid hsum
    have HTL := Lib.hid htl
    have HMB := Lib.hid hmb
    have HP3 := Lib.hid hp3
    have HM := Lib.hid hm
    have HK := Lib.hid hk
    have HFit := Lib.hid HF
    have HLIM : Hid (m ≤ 300 ∧ k ≤ 6) := Lib.hid ⟨by rw [hm]; exact HF.nds, by rw [hk]; exact HF.fns⟩
    have RC : Hid (Calls Tryd.prog 16 #[.string t] w2 fun e w' => ∃ A c A' c', e = .returned (.tuple #[.agg #[.slice A m c, .slice A' k c'], .int .i64 0, .int .i64 0]) ∧ TreeR 0 w' A A' nd fs ∧ Keeps (fun _ => False) w2 w') := Lib.hid (by rw [hm, hk]; exact RC.out)
    clear hm hk hQ hsum hp3 hps htl hmb rfs rok rrep rms hwt hnm HF hres he0 la na
    rename_i RC0
    clear RC0
    go_wp2_with fail
    refine RC.out.mono ?_
    rintro e w3 ⟨A, c, A', c', rfl, hTr, k3⟩
    have K3 := Lib.hid (K1.out.trans k3 (fun _ _ h => h))
    have HT3 := Lib.hid hTr
    clear RC K1 k3 hTr
    go_upto_region 3 with fail
    have ka := Keeps.one w3 (.cells #[.slice A m c, .slice A' k c'] 27)
    obtain ⟨P1, hP1⟩ : ∃ X, X = w3.heap.size := ⟨_, rfl⟩
    obtain ⟨w4, hw4⟩ : ∃ w4, w4 = w3.alloc (.cells #[.slice A m c, .slice A' k c'] 27) := ⟨_, rfl⟩
    have HX4 : Hid (Loc w4 (fun _ => False) P1 [.slice A m c, .slice A' k c']) := Lib.hid (by rw [hw4, hP1]; exact Loc.new (fun h => h) [.slice A m c, .slice A' k c'] 27)
    rw [← hP1]
    rw [← hw4] at ka ⊢
    have K4 := Lib.hid (K3.out.trans ka (fun _ _ h => h))
    have HT4 := Lib.hid (HT3.out.keep ka)
    have HW4 := Lib.hid (HW.out.keep K4.out)
    clear ka hw4 hP1 K3 HT3 HW
    go_upto_region 6 with fail
    go_loopg [7, 8, 9, 10, 11, 12, 13, 14, 15] (m + 1) (fun q s7 s8 s9 s10 s11 s12 s13 s14 s15 wr => ∃ i : Nat, s7 = .int .i64 i ∧ i + q = m + 1 ∧ i ≤ m ∧ Keeps (fun _ => False) w4 wr)
    case atStart => exact ⟨0, rfl, by omega, by omega, Keeps.refl _ _⟩
    case round =>
      obtain ⟨i, rfl, hiq, hin1, kr⟩ := hrel
      have KR := Lib.hid kr
      have HIQ := Lib.hid hiq
      have HTr := Lib.hid (HT4.out.keep kr)
      have HWr := Lib.hid (HW4.out.keep kr)
      have HXr := Lib.hid (HX4.out.keeps kr)
      have x0 := HXr.out.cells 0 _ rfl
      have x1 := HXr.out.cells 1 _ rfl
      clear hiq kr
      by_cases hin : i < m
      · have hI : (i : Int) < (m : Int) := by omega
        have hdI : decide ((i : Int) < (m : Int)) = true := decide_eq_true hI
        have hi0 : (0 : Int) ≤ (i : Int) := by omega
        have wi : IntKind.i64.wrap ((i : Int) + 1) = (i : Int) + 1 := IntWalk.i64_in _ (by have := HLIM.out.1; omega)
        have HIN := Lib.hid hin
        have hil : i < nd.length := by rw [← HM.out]; exact hin
        obtain ⟨b, off, hA, hc⟩ := HTr.out.nodeAt (by omega)
        obtain ⟨a, cc, c0, -⟩ := hc i hil
        have hev := every_wt HWT.out i hil
        generalize (nd[i]).k = kk at c0 hev
        have HA := Lib.hid hA
        replace x0 : wr.cell? ⟨P1, 0, none⟩ = some (.slice (some ⟨b, off, none⟩) m c) := by rw [← hA]; exact x0
        clear hc hil hin hin1 hA
        by_cases hk9 : kk > 9
        · have d1 : decide (kk > (9 : Int)) = true := decide_eq_true hk9
          clear hev hk9
          go_wp2_with fail
          go_roundg (gk - 1)
          case measure => go_light; have h1 := HIQ.out; have h2 := HIN.out; omega
          case rel => exact ⟨i + 1, by go_num, by have h1 := HIQ.out; have h2 := HIN.out; go_light; omega, by have h2 := HIN.out; go_light; omega, KR.out⟩
        · have d1 : decide (kk > (9 : Int)) = false := decide_eq_false hk9
          obtain ⟨e, hwe, hrep, hme⟩ := hev (by omega)
          have HWE := Lib.hid hwe
          have HREP := Lib.hid hrep
          have hsl := ev_len e _ hrep hme HSUM.out
          have hm9 : massE e ≤ 900000 := by have := HSUM.out; omega
          have HM9 := Lib.hid hm9
          obtain ⟨S, hS⟩ : ∃ S, S = ofL (showE e) := ⟨_, rfl⟩
          have HS := Lib.hid hS
          have hsz : S.size ≤ 318000 := by rw [hS, ofL_size]; exact hsl
          have hSl : S.data.toList = showE e := by rw [hS]; exact ofL_list _
          have EP : Hid (Calls Tryd.prog 20 #[.agg #[.slice (some ⟨b, off, none⟩) m c, .slice A' k c'], .int .i64 i] wr fun r w'' => r = .returned (.string S) ∧ Keeps (fun _ => False) wr w'') := Lib.hid (by
            rw [HS.out, ← HA.out]
            exact pexpr_all qshow nd fs A A' m k c c' HM.out e HM9.out i wr HWr.out HTr.out HREP.out)
          obtain ⟨res1, hr1, hc1⟩ := parts_res (parts_one hwe)
          obtain ⟨res2, hr2, hc2⟩ := parts_res2 (parts_two hwe)
          have UC : Hid (∀ w', Calls Tryd.prog 16 #[.string (({ data := #[102, 110, 32, 109, 97, 105, 110, 40, 41, 123, 112, 114, 105, 110, 116, 32] } : ByteArray) ++ S ++ { data := #[59, 125] })] w' fun e w'' => ∃ A c A' c', e = .returned (.tuple #[.agg #[.slice A (ndsOf res1).length c, .slice A' (fnsOf res1).length c'], .int .i64 (atOf res1 : Int), .int .i64 (erOf res1 : Int)]) ∧ TreeR 0 w'' A A' (ndsOf res1) (fnsOf res1) ∧ Keeps (fun _ => False) w' w'') := Lib.hid (fun w' => rsrc_all _ res1 (by rw [bap_list, bap_list, hSl]; exact hr1) w')
          have VC : Hid (∀ w', Calls Tryd.prog 16 #[.string (({ data := #[102, 110, 32, 109, 97, 105, 110, 40, 41, 123, 112, 114, 105, 110, 116, 32, 40] } : ByteArray) ++ S ++ { data := #[41, 59, 125] })] w' fun e w'' => ∃ A c A' c', e = .returned (.tuple #[.agg #[.slice A (ndsOf res2).length c, .slice A' (fnsOf res2).length c'], .int .i64 (atOf res2 : Int), .int .i64 (erOf res2 : Int)]) ∧ TreeR 0 w'' A A' (ndsOf res2) (fnsOf res2) ∧ Keeps (fun _ => False) w' w'') := Lib.hid (fun w' => rsrc_all _ res2 (by rw [bap_list, bap_list, hSl]; exact hr2) w')
          have q1 : ¬ 9223372036854775807 < 16 + S.size := by omega
          have q2 : ¬ 9223372036854775807 < 16 + S.size + 2 := by omega
          have q3 : ¬ 9223372036854775807 < 17 + S.size := by omega
          have q4 : ¬ 9223372036854775807 < 17 + S.size + 3 := by omega
          have HC1 := Lib.hid hc1
          have HC2 := Lib.hid hc2
          obtain ⟨nd1, hnd1⟩ : ∃ x, x = ndsOf res1 := ⟨_, rfl⟩
          obtain ⟨fs1, hfs1⟩ : ∃ x, x = fnsOf res1 := ⟨_, rfl⟩
          obtain ⟨er1, her1⟩ : ∃ x, x = erOf res1 := ⟨_, rfl⟩
          obtain ⟨nd2, hnd2⟩ : ∃ x, x = ndsOf res2 := ⟨_, rfl⟩
          obtain ⟨fs2, hfs2⟩ : ∃ x, x = fnsOf res2 := ⟨_, rfl⟩
          obtain ⟨er2, her2⟩ : ∃ x, x = erOf res2 := ⟨_, rfl⟩
          rw [← hnd1, ← hfs1, ← her1] at UC
          rw [← hnd2, ← hfs2, ← her2] at VC
          rw [← hnd1, ← her1] at HC1
          rw [← hnd2, ← her2] at HC2
          generalize (atOf res1 : Int) = pa1 at UC
          generalize (atOf res2 : Int) = pa2 at VC
          obtain ⟨n1, hn1⟩ : ∃ x, x = nd1.length := ⟨_, rfl⟩
          obtain ⟨n2, hn2⟩ : ∃ x, x = nd2.length := ⟨_, rfl⟩
          obtain ⟨k9, hk1⟩ : ∃ x, x = fs1.length := ⟨_, rfl⟩
          obtain ⟨k12, hk2⟩ : ∃ x, x = fs2.length := ⟨_, rfl⟩
          rw [← hn1, ← hk1] at UC
          rw [← hn2, ← hk2] at VC
          have HN1 := Lib.hid hn1
          have HN2 := Lib.hid hn2
          clear hev hk9 hwe hrep hme hsl hm9 hS hsz hSl hr1 hc1 hr2 hc2 hnd1 hfs1 her1 hnd2 hfs2 her2 hn1 hn2 hk1 hk2
          go_wp2_with fail
          refine EP.out.mono ?_
          rintro r w5 ⟨rfl, k5⟩
          have K5 := Lib.hid k5
          have UD := Lib.hid (UC.out w5)
          clear EP k5 UC x0 x1
          have x0 : w5.cell? ⟨P1, 0, none⟩ = some (.slice (some ⟨b, off, none⟩) m c) := by rw [← HA.out]; exact (HXr.out.keeps K5.out).cells 0 _ rfl
          clear x0
          go_wp2_with fail
          refine UD.out.mono ?_
          rintro r w6 ⟨A8, c9, A9, d9, rfl, hT6, k6⟩
          have K6 := Lib.hid (K5.out.trans k6 (fun _ _ h => h))
          have HT6 := Lib.hid hT6
          clear UD k6 hT6 K5
          go_upto_region 11 with fail
          obtain ⟨P9, hP9⟩ : ∃ X, X = w6.heap.size := ⟨_, rfl⟩
          obtain ⟨w7, hw7⟩ : ∃ w7, w7 = w6.alloc (.cells #[.slice A8 n1 c9, .slice A9 k9 d9] 27) := ⟨_, rfl⟩
          have ka := Keeps.one w6 (.cells #[.slice A8 n1 c9, .slice A9 k9 d9] 27)
          have HY7 : Hid (Loc w7 (fun _ => False) P9 [.slice A8 n1 c9, .slice A9 k9 d9]) := Lib.hid (by rw [hw7, hP9]; exact Loc.new (fun h => h) [.slice A8 n1 c9, .slice A9 k9 d9] 27)
          rw [← hP9]
          rw [← hw7] at ka ⊢
          have K7 := Lib.hid (K6.out.trans ka (fun _ _ h => h))
          have HT7 := Lib.hid (HT6.out.keep ka)
          have VD := Lib.hid (VC.out w7)
          clear ka hw7 hP9 K6 HT6 VC
          go_wp2_with fail
          refine VD.out.mono ?_
          rintro r w8 ⟨A11, c12, A12, d12, rfl, hT8, k8⟩
          have K8 := Lib.hid (K7.out.trans k8 (fun _ _ h => h))
          have HU8 := Lib.hid hT8
          have HY8 := Lib.hid (HY7.out.keeps k8)
          have HT8 := Lib.hid (HT7.out.keep k8)
          clear VD k8 hT8 K7 HT7 HY7
          go_upto_region 12 with fail
          obtain ⟨P12, hP12⟩ : ∃ X, X = w8.heap.size := ⟨_, rfl⟩
          obtain ⟨w9, hw9⟩ : ∃ w9, w9 = w8.alloc (.cells #[.slice A11 n2 c12, .slice A12 k12 d12] 27) := ⟨_, rfl⟩
          have ka := Keeps.one w8 (.cells #[.slice A11 n2 c12, .slice A12 k12 d12] 27)
          have HZ9 : Hid (Loc w9 (fun _ => False) P12 [.slice A11 n2 c12, .slice A12 k12 d12]) := Lib.hid (by rw [hw9, hP12]; exact Loc.new (fun h => h) [.slice A11 n2 c12, .slice A12 k12 d12] 27)
          rw [← hP12]
          rw [← hw9] at ka ⊢
          have K9 := Lib.hid (K8.out.trans ka (fun _ _ h => h))
          have HT9 := Lib.hid (HT8.out.keep ka)
          have HU9 := Lib.hid (HU8.out.keep ka)
          have HY9 := Lib.hid (HY8.out.keeps ka)
          have KF := Lib.hid (KR.out.trans K9.out (fun _ _ h => h))
          have HWf := Lib.hid (HWr.out.keep K9.out)
          have HTf := Lib.hid (HTr.out.keep K9.out)
          have HXf := Lib.hid (HXr.out.keeps K9.out)
          clear ka hw9 hP12 K8 HT8 HU8 HY8 q1 q2 q3 q4 c0
          have hcase : er1 = 4 ∨ er1 = 0 ∧ TreeP e nd1 := HC1.out
          rcases hcase with h41 | ⟨h01, htp1⟩
          · subst h41
            clear HC1 HC2
            go_wp2_with fail
            go_roundg (gk - 1)
            case measure => go_light; have h1 := HIQ.out; have h2 := HIN.out; omega
            case rel => exact ⟨i + 1, by go_num, by have h1 := HIQ.out; have h2 := HIN.out; go_light; omega, by have h2 := HIN.out; go_light; omega, KF.out⟩
          · subst h01
            obtain ⟨at1, hat1⟩ : ∃ x, x = kE e := ⟨_, rfl⟩
            have hn1 : n1 = at1 + 3 := by rw [HN1.out, htp1.len, hat1]
            have hrep1 : RepE qshow nd1 e ((at1 : Nat) : Int) := by rw [hat1]; exact htp1.rep HWE.out
            obtain ⟨rk, hrk⟩ : ∃ x, x = rkE e := ⟨_, rfl⟩
            obtain ⟨rn, hrn⟩ : ∃ x, x = rnE e := ⟨_, rfl⟩
            obtain ⟨l1, ha1⟩ := root_at e _ hrep1
            obtain ⟨l0, ha0⟩ := root_at e _ HREP.out
            rw [← hrk, ← hrn] at ha1 ha0
            obtain ⟨j1, b9, o9, ln1, a1, cc1, hj1, hjl1, hA8, hnr1⟩ := HT9.out.node ha1
            obtain ⟨j0, b0, o0, ln0, a0, cc0, hj0, hjl0, hA0, hnr0⟩ := HTf.out.node ha0
            have e1 : at1 = j1 := by omega
            have e0 : i = j0 := by omega
            subst e1
            subst e0
            have hbb : b0 = b ∧ o0 = off := by
              have := hA0.symm.trans HA.out
              injection this with this
              injection this with e1 e2
              exact ⟨e1, e2⟩
            obtain ⟨rfl, rfl⟩ := hbb
            obtain ⟨RS, hRS⟩ : ∃ x, x = ofL (rsE e) := ⟨_, rfl⟩
            have u0 := hnr1.c0
            have u2 := hnr1.c2
            have u3 := hnr1.c3
            have c0 := hnr0.c0
            have c2 := hnr0.c2
            have c3 := hnr0.c3
            rw [← hRS] at u3 c3
            have HA8 := Lib.hid hA8
            have p0 : w9.cell? ⟨P9, 0, none⟩ = some (.slice (some ⟨b9, o9, none⟩) n1 c9) := by rw [← hA8]; exact HY9.out.cells 0 _ rfl
            have p1 := HY9.out.cells 1 _ rfl
            have x0 : w9.cell? ⟨P1, 0, none⟩ = some (.slice (some ⟨b0, o0, none⟩) m c) := by rw [← HA.out]; exact HXf.out.cells 0 _ rfl
            have HREP1 := Lib.hid hrep1
            have EC : Hid (∀ w', Keeps (fun _ => False) w9 w' → Calls Tryd.prog 20 #[.agg #[.slice (some ⟨b9, o9, none⟩) n1 c9, .slice A9 k9 d9], .int .i64 at1] w' fun r w'' => r = .returned (.string S) ∧ Keeps (fun _ => False) w9 w'') := Lib.hid (fun w' q => by
              rw [HS.out, ← HA8.out]
              exact (pexpr_all qshow nd1 fs1 A8 A9 n1 k9 c9 d9 HN1.out e HM9.out at1 w' (HWf.out.keep q) (HT9.out.keep q) HREP1.out).mono fun r w'' ⟨h1, h2⟩ => ⟨h1, q.trans h2 (fun _ _ h => h)⟩)
            have hlt1 : (at1 : Int) < (n1 : Int) := by omega
            have hn0 : (0 : Int) ≤ (at1 : Int) := by omega
            have hng : ¬ (at1 : Int) < 0 := by omega
            have hdn : decide ((at1 : Int) < 0) = false := decide_eq_false hng
            have hn300 : n1 ≤ 1000000 := by
              have h1 := HREP1.out
              have h2 := HM9.out
              have h3 := kE_mass e
              omega
            have ws : IntKind.i64.wrap ((n1 : Int) - 3) = (at1 : Int) := by rw [IntWalk.i64_in _ (by omega)]; omega
            have bs : (S.toList == S.toList) = true := by simp
            have bt : (RS.toList == RS.toList) = true := by simp
            have bk : (rk != rk) = false := by simp
            have bn : (rn != rn) = false := by simp
            have HL1 := Lib.hid hn1
            have SK : Hid (∀ w', Keeps (fun _ => False) w9 w' → (w'.cell? ⟨P9, 0, none⟩ = some (.slice (some ⟨b9, o9, none⟩) n1 c9) ∧ w'.cell? ⟨P9, 1, none⟩ = some (.slice A9 k9 d9) ∧ w'.cell? ⟨P1, 0, none⟩ = some (.slice (some ⟨b0, o0, none⟩) m c) ∧ w'.cell? ⟨b9, (o9 + at1 * 5), none⟩ = some (.int .i64 rk) ∧ w'.cell? ⟨b9, (o9 + at1 * 5 + 2), none⟩ = some (.int .i64 rn) ∧ w'.cell? ⟨b9, (o9 + at1 * 5 + 3), none⟩ = some (.string RS) ∧ w'.cell? ⟨b0, (o0 + i * 5), none⟩ = some (.int .i64 rk) ∧ w'.cell? ⟨b0, (o0 + i * 5 + 2), none⟩ = some (.int .i64 rn) ∧ w'.cell? ⟨b0, (o0 + i * 5 + 3), none⟩ = some (.string RS)) ∧ Keeps (fun _ => False) w9 w') := Lib.hid (fun w' q => ⟨⟨(q.cell (cell_ltk p0) (fun h => h)).trans p0, (q.cell (cell_ltk p1) (fun h => h)).trans p1, (q.cell (cell_ltk x0) (fun h => h)).trans x0, (q.cell (cell_ltk u0) (fun h => h)).trans u0, (q.cell (cell_ltk u2) (fun h => h)).trans u2, (q.cell (cell_ltk u3) (fun h => h)).trans u3, (q.cell (cell_ltk c0) (fun h => h)).trans c0, (q.cell (cell_ltk c2) (fun h => h)).trans c2, (q.cell (cell_ltk c3) (fun h => h)).trans c3⟩, q⟩)
            have HAT := Lib.hid hat1
            clear hat1 hnr1 hnr0 ha1 ha0 hj1 hj0 hjl1 hjl0 hA0 hA8 hRS hrk hrn hrep1 htp1 HC1 HT9 hn300 hn1
            go_upto_region 16 with fail
            go_region_held3 (fun w' => (w'.cell? ⟨P9, 0, none⟩ = some (.slice (some ⟨b9, o9, none⟩) n1 c9) ∧ w'.cell? ⟨P9, 1, none⟩ = some (.slice A9 k9 d9) ∧ w'.cell? ⟨P1, 0, none⟩ = some (.slice (some ⟨b0, o0, none⟩) m c) ∧ w'.cell? ⟨b9, (o9 + at1 * 5), none⟩ = some (.int .i64 rk) ∧ w'.cell? ⟨b9, (o9 + at1 * 5 + 2), none⟩ = some (.int .i64 rn) ∧ w'.cell? ⟨b9, (o9 + at1 * 5 + 3), none⟩ = some (.string RS) ∧ w'.cell? ⟨b0, (o0 + i * 5), none⟩ = some (.int .i64 rk) ∧ w'.cell? ⟨b0, (o0 + i * 5 + 2), none⟩ = some (.int .i64 rn) ∧ w'.cell? ⟨b0, (o0 + i * 5 + 3), none⟩ = some (.string RS)) ∧ Keeps (fun _ => False) w9 w') (first | exact SK.out _ (Keeps.refl _ _) | exact SK.out _ (by assumption) | exact SK.out _ ((Keeps.refl _ _).drew) | exact SK.out _ (Keeps.drew (by assumption))) (first | (go_at_call 20; refine (EC.out _ (by first | assumption | exact (Keeps.refl _ _).drew | exact Keeps.drew (by assumption) | exact Keeps.refl _ _)).mono ?_; rintro r w8 ⟨rfl, k8⟩))
            have KG := Lib.hid (KF.out.trans k8 (fun _ _ h => h))
            have hcase2 : er2 ≠ 0 ∨ er2 = 0 ∧ TreeP e nd2 := HC2.out
            rcases hcase2 with hne2 | ⟨h02, htp2⟩
            · have d2 : ((er2 : Int) == 0) = false := by simp; omega
              clear hne2 HC2
              go_wp2_with fail
              go_roundg (gk - 1)
              case measure => go_light; have h1 := HIQ.out; have h2 := HIN.out; omega
              case rel => exact ⟨i + 1, by go_num, by have h1 := HIQ.out; have h2 := HIN.out; go_light; omega, by have h2 := HIN.out; go_light; omega, KG.out⟩
            · subst h02
              have hn2 : n2 = at1 + 3 := by rw [HN2.out, htp2.len, HAT.out]
              have hrep2 : RepE qshow nd2 e ((at1 : Nat) : Int) := by rw [HAT.out]; exact htp2.rep HWE.out
              have z0 := (HZ9.out.keeps k8).cells 0 _ rfl
              have z1 := (HZ9.out.keeps k8).cells 1 _ rfl
              have EV : Hid (Calls Tryd.prog 20 #[.agg #[.slice A11 n2 c12, .slice A12 k12 d12], .int .i64 at1] w8 fun r w'' => r = .returned (.string S) ∧ Keeps (fun _ => False) w8 w'') := Lib.hid (by
                rw [HS.out]
                exact pexpr_all qshow nd2 fs2 A11 A12 n2 k12 c12 d12 HN2.out e HM9.out at1 w8 (HWf.out.keep k8) (HU9.out.keep k8) hrep2)
              have hn300 : n2 ≤ 1000000 := by
                have h2 := HM9.out
                have h3 := kE_mass e
                have h4 := HAT.out
                omega
              have ws2 : IntKind.i64.wrap ((n2 : Int) - 3) = (at1 : Int) := by rw [IntWalk.i64_in _ (by omega)]; omega
              clear hrep2 htp2 hn2 hn300 HC2
              go_wp2_with fail
              refine EV.out.mono ?_
              rintro r w10 ⟨rfl, k10⟩
              have KH := Lib.hid (KG.out.trans k10 (fun _ _ h => h))
              clear EV k10 z0 z1
              go_wp2_with fail
              go_roundg (gk - 1)
              case measure => go_light; have h1 := HIQ.out; have h2 := HIN.out; omega
              case rel => exact ⟨i + 1, by go_num, by have h1 := HIQ.out; have h2 := HIN.out; go_light; omega, by have h2 := HIN.out; go_light; omega, KH.out⟩
      · obtain rfl : m = i := by omega
        have hI : ¬ (m : Int) < (m : Int) := by omega
        have hdI : decide ((m : Int) < (m : Int)) = false := decide_eq_false hI
        have KE := Lib.hid (K4.out.trans KR.out (fun _ _ h => h))
        clear hin hin1
        go_wp2_with fail
        go_ret
        exact ⟨rfl, KE.out⟩
  · have hne : ((erOf res : Int) != 0) = true := by simp; omega
    generalize (ndsOf res).length = nm at RC
    generalize (fnsOf res).length = nk at RC
    generalize (atOf res : Int) = ax at RC
    generalize (erOf res : Int) = ex at RC hne
    clear hres he0
    go_wp2_with fail
    refine RC.out.mono ?_
    rintro e w3 ⟨A, c, A', c', rfl, hTr, k3⟩
    have K3 := Lib.hid (K1.out.trans k3 (fun _ _ h => h))
    clear RC K1 k3 hTr
    go_upto_region 3 with fail
    have ka := Keeps.one w3 (.cells #[.slice A nm c, .slice A' nk c'] 27)
    obtain ⟨w4, hw⟩ : ∃ w4, w4 = w3.alloc (.cells #[.slice A nm c, .slice A' nk c'] 27) := ⟨_, rfl⟩
    rw [← hw] at ka ⊢
    have K4 := Lib.hid (K3.out.trans ka (fun _ _ h => h))
    generalize w3.heap.size = X4
    clear ka hw K3
    go_wp2_with fail
    go_ret
    exact ⟨rfl, K4.out⟩
end Go.Proofs.YtgelggdgbmldiaaDoor
