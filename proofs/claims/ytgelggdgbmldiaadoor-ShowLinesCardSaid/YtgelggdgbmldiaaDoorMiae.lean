/-
  Layer 3: ShowLines. Written by an AI agent.
-/
import Derived.Lib.Bytealg
import Derived.Lib.ItoaNum
import Derived.Lib.ItoaMem
import Derived.Test.YtgelggdgbmldiaaDoorChecked
import Derived.Laws.OwnMore
import Derived.Laws.AppendOwnNone
import Derived.OwnWalk
import Derived.Lib.AppendZerosOnto
import Derived.Below
import Derived.Stop.Walk2
import Derived.WalkKit
import Derived.WalkLawsBesides
import Derived.WalkSpells
import Derived.Outline
import Derived.BigQuiet
import Derived.Deep.CutBlock
import Derived.Deep.CutRange
import Derived.Deep.DeepCutAuto
import Derived.Deep.RegionHeld3
import Derived.Deep.RegionLaw
import Derived.Deep.RegionWith
import Derived.StillTailTactics
import Derived.RegionTactic
import Derived.Laws.StructEq
import Derived.Lib.Hide
import Derived.Shelf.Abstract
import Derived.Shelf.Lay
import Derived.Ground.NamesProg
import Derived.Shelf.Strings.Prefix
import Derived.Shelf.Small.Strs
import Derived.Shelf.Strings.Count
import Derived.Shelf.Strconv.ErrVarParseInt
import Derived.WalkMore
import Derived.Scope
import Derived.Shelf.Slices.Turned
import Derived.Lib.SlicesS
import Derived.Deep.RegionHeld
import Derived.Deep.LoopGhost
import Derived.Deep.Light
import Derived.Shelf.Strconv.Itoa3
import Derived.Lib.LaidTab
import Derived.Lib.ItoaLen
import Derived.Maps.Own
import Derived.Maps.OwnOps
import Derived.StringKeys
import Derived.Shelf.Strings.OnBuilder
import Derived.Shelf.Strings.BuilderCap
import Derived.Shelf.Strings.BuilderK
import Derived.Shelf.Strconv.AtoiAll
import Derived.Deep.OwnRows
import Derived.Test.YtgelggdgbmldiaaDoorMcaa
import Derived.Test.YtgelggdgbmldiaaDoorMcab
import Derived.Test.YtgelggdgbmldiaaDoorMcac
import Derived.Test.YtgelggdgbmldiaaDoorMcad
import Derived.Test.YtgelggdgbmldiaaDoorMcae
import Derived.Test.YtgelggdgbmldiaaDoorMcaf
import Derived.Test.YtgelggdgbmldiaaDoorMcag
import Derived.Test.YtgelggdgbmldiaaDoorMcah
import Derived.Test.YtgelggdgbmldiaaDoorMcai
import Derived.Test.YtgelggdgbmldiaaDoorMcaj
import Derived.Test.YtgelggdgbmldiaaDoorMcak
import Derived.Test.YtgelggdgbmldiaaDoorMcal
import Derived.Test.YtgelggdgbmldiaaDoorMcam
import Derived.Test.YtgelggdgbmldiaaDoorMcan
import Derived.Test.YtgelggdgbmldiaaDoorMcao
import Derived.Test.YtgelggdgbmldiaaDoorMcap
import Derived.Test.YtgelggdgbmldiaaDoorMcaq
import Derived.Test.YtgelggdgbmldiaaDoorMcar
import Derived.Test.YtgelggdgbmldiaaDoorMcas
import Derived.Test.YtgelggdgbmldiaaDoorMcat
import Derived.Test.YtgelggdgbmldiaaDoorMcau
import Derived.Test.YtgelggdgbmldiaaDoorMcav
import Derived.Test.YtgelggdgbmldiaaDoorMcaw
import Derived.Test.YtgelggdgbmldiaaDoorMcax
import Derived.Test.YtgelggdgbmldiaaDoorMcay
import Derived.Test.YtgelggdgbmldiaaDoorMcaz
import Derived.Test.YtgelggdgbmldiaaDoorMcba
import Derived.Test.YtgelggdgbmldiaaDoorMcbb
import Derived.Test.YtgelggdgbmldiaaDoorMcbc
import Derived.Test.YtgelggdgbmldiaaDoorMcbd
import Derived.Test.YtgelggdgbmldiaaDoorMcbe
import Derived.Test.YtgelggdgbmldiaaDoorMcbf
import Derived.Test.YtgelggdgbmldiaaDoorMcbg
import Derived.Test.YtgelggdgbmldiaaDoorMcbh
import Derived.Test.YtgelggdgbmldiaaDoorMcbi
import Derived.Test.YtgelggdgbmldiaaDoorMcbj
import Derived.Test.YtgelggdgbmldiaaDoorMcbk
import Derived.Test.YtgelggdgbmldiaaDoorMcbl
import Derived.Test.YtgelggdgbmldiaaDoorMcbm
import Derived.Test.YtgelggdgbmldiaaDoorMcbn
import Derived.Test.YtgelggdgbmldiaaDoorMcbo
import Derived.Test.YtgelggdgbmldiaaDoorMiaa
import Derived.Test.YtgelggdgbmldiaaDoorMiab
import Derived.Test.YtgelggdgbmldiaaDoorMiac
import Derived.Test.YtgelggdgbmldiaaDoorMiad
namespace Go.Proofs.YtgelggdgbmldiaaDoor
open Go Go.RowKit Go.Shelf
set_option linter.unusedVariables false
set_option linter.unusedSimpArgs false
theorem cntK_le (k : Int) : cntK k ≤ 2 := by unfold cntK; split; omega; split; omega; omega
theorem cntN_le : ∀ nd : List Nd, cntN nd ≤ nd.length * 2
  | [] => Nat.le_refl _
  | n :: l => by show cntK n.k + cntN l ≤ (l.length + 1) * 2; have := cntN_le l; have := cntK_le n.k; omega
theorem cntN_next {nd : List Nd} {i : Nat} (h : i < nd.length) : cntN (nd.take (i + 1)) = cntN (nd.take i) + cntK (nd[i]).k := by
  rw [List.take_succ_eq_append_getElem h, cntN_append]
  rfl
theorem countq_next {l : List UInt8} {i : Nat} {x : UInt8} (h : l[i]? = some x) : (l.take (i + 1)).count 10 = (l.take i).count 10 + (if x = 10 then 1 else 0) := by
  rw [List.take_add_one, h, List.count_append]
  by_cases hx : x = 10
  · rw [hx]; rfl
  · rw [if_neg hx]
    have : (some x : Option UInt8).toList.count 10 = 0 := by
      show [x].count 10 = 0
      rw [List.count_singleton]
      simp [hx]
    rw [this]
set_option maxRecDepth 100000 in
set_option maxHeartbeats 32000000 in
theorem showlines_walk (s0 : ByteArray) (w : World) (hw : ShW w) (HC : Hid (Calls Tryd.prog 15 #[] w fun e w' => e = .returned (.bool true) ∧ Keeps (fun _ => False) w w')) : Calls Tryd.prog 10 #[.string s0] w fun e w' => e = .returned (.bool true) ∧ Keeps (fun _ => False) w w' := by
  have HW := Lib.hid hw
  clear hw
  go_enter Tryd.func10, Tryd.ntmps10
  go_wp2_with fail
  refine HC.out.mono ?_
  rintro e w1 ⟨rfl, k1⟩
  have K1 := Lib.hid k1
  have SC := Lib.hid (short3_any s0 w1)
  clear HC k1
  go_wp2_with fail
  refine SC.out.mono ?_
  rintro e w2 ⟨⟨t, ht, rfl⟩, rfl⟩
  obtain ⟨res, hres⟩ := allP_some t.data.toList 6100 (Nat.le_refl _)
  have RC := Lib.hid (rsrc_any t (by omega) res hres w2)
  clear SC ht
  by_cases he0 : erOf res = 0
  · obtain ⟨nd, fs, rfl⟩ := er_tree hres he0
    obtain ⟨la, na, _⟩ := tree_out (Nat.le_refl _) hres
    have hnm := names_wt la na hres
    obtain ⟨ps, hwt⟩ := tree_wt hres
    obtain ⟨rfs, rok, rrep, rms⟩ := rep_of_wt hwt
    have HF : Fit nd fs := fit_of hres
    obtain ⟨m, hm⟩ : ∃ m, m = nd.length := ⟨_, rfl⟩
    obtain ⟨k, hk⟩ : ∃ k, k = fs.length := ⟨_, rfl⟩
    have hQ : ∀ s, qshow s → s.length ≤ 1000 := fun s h => h
    have hsum : sumC nd ≤ 318000 := by
      have h1 := sumC_le hQ nd hnm
      have h2 := HF.nds
      omega
    have hp3 : ∀ p ∈ ps, p.1.ps.length ≤ 3 := fun p hp => HF.prs p.1 (by show p.1 ∈ fs; rw [rfs]; exact List.mem_map.2 ⟨p, hp, rfl⟩)
    have hps : ps.length ≤ 6 := by have h1 : fs.length ≤ 6 := HF.fns; rw [rfs, List.length_map] at h1; exact h1
    have htl : (textT ps).length ≤ 350000 := by
      have h1 := textT_len hQ ps rok hp3 rrep
      omega
    have hmb : ∀ p ∈ ps, massB p.2 ≤ 800000 := fun p hp => by
      have h1 := massF_mem ps p hp
      omega
    have HRT : Hid (fs = ps.map Prod.fst ∧ (∀ p ∈ ps, FnOK qshow p.1) ∧ ∀ p ∈ ps, ∃ xs, At nd p.1.body 18 0 [] xs ∧ RepB qshow nd p.2 xs) := Lib.hid ⟨rfs, rok, rrep⟩
    have HWT := Lib.hid hwt
    have HSUM := Lib.hid hsum
    have HTL := Lib.hid htl
    have HMB := Lib.hid hmb
    have HP3 := Lib.hid hp3
    have HM := Lib.hid hm
    have HK := Lib.hid hk
    have HFit := Lib.hid HF
    have HLIM : Hid (m ≤ 300 ∧ k ≤ 6) := Lib.hid ⟨by rw [hm]; exact HF.nds, by rw [hk]; exact HF.fns⟩
    have RC : Hid (Calls Tryd.prog 16 #[.string t] w2 fun e w' => ∃ A c A' c', e = .returned (.tuple #[.agg #[.slice A m c, .slice A' k c'], .int .i64 0, .int .i64 0]) ∧ TreeR 0 w' A A' nd fs ∧ Keeps (fun _ => False) w2 w') := Lib.hid (by rw [hm, hk]; exact RC.out)
    clear hm hk hQ hsum hp3 hps htl hmb rfs rok rrep rms hwt hnm HF hres he0 la na
    rename_i RC0
    clear RC0
    go_wp2_with fail
    refine RC.out.mono ?_
    rintro e w3 ⟨A, c, A', c', rfl, hTr, k3⟩
    have K3 := Lib.hid (K1.out.trans k3 (fun _ _ h => h))
    have HT3 := Lib.hid hTr
    clear RC K1 k3 hTr
    go_upto_region 3 with fail
    have ka := Keeps.one w3 (.cells #[.slice A m c, .slice A' k c'] 27)
    obtain ⟨P1, hP1⟩ : ∃ X, X = w3.heap.size := ⟨_, rfl⟩
    obtain ⟨w4, hw4⟩ : ∃ w4, w4 = w3.alloc (.cells #[.slice A m c, .slice A' k c'] 27) := ⟨_, rfl⟩
    have HX4 : Hid (Loc w4 (fun _ => False) P1 [.slice A m c, .slice A' k c']) := Lib.hid (by rw [hw4, hP1]; exact Loc.new (fun h => h) [.slice A m c, .slice A' k c'] 27)
    rw [← hP1]
    rw [← hw4] at ka ⊢
    have K4 := Lib.hid (K3.out.trans ka (fun _ _ h => h))
    have HT4 := Lib.hid (HT3.out.keep ka)
    have HW4 := Lib.hid (HW.out.keep K4.out)
    clear ka hw4 hP1 K3 HT3 HW
    go_upto_region 7 with fail
    go_loopg [7, 8, 9] (m + 1) (fun q s7 s8 s9 wr => ∃ i : Nat, s7 = .int .i64 (cntN (nd.take i) : Nat) ∧ s8 = .int .i64 i ∧ i + q = m + 1 ∧ i ≤ m ∧ Keeps (fun _ => False) w4 wr)
    case atStart => exact ⟨0, rfl, rfl, by omega, by omega, Keeps.refl _ _⟩
    case round =>
      obtain ⟨i, rfl, rfl, hiq, hin1, kr⟩ := hrel
      have KR := Lib.hid kr
      have HIQ := Lib.hid hiq
      have HTr := Lib.hid (HT4.out.keep kr)
      have x0 := (HX4.out.keeps kr).cells 0 _ rfl
      have HB0 : Hid (cntN (nd.take i) ≤ 600) := Lib.hid (by have h1 := cntN_le (nd.take i); have h2 := HLIM.out.1; rw [List.length_take] at h1; omega)
      clear hiq kr
      by_cases hin : i < m
      · have hI : (i : Int) < (m : Int) := by omega
        have hdI : decide ((i : Int) < (m : Int)) = true := decide_eq_true hI
        have hi0 : (0 : Int) ≤ (i : Int) := by omega
        have wi : IntKind.i64.wrap ((i : Int) + 1) = (i : Int) + 1 := IntWalk.i64_in _ (by have := HLIM.out.1; omega)
        have HIN := Lib.hid hin
        have hil : i < nd.length := by rw [← HM.out]; exact hin
        obtain ⟨b, off, hA, hc⟩ := HTr.out.nodeAt (by omega)
        obtain ⟨a, c2, c0, -⟩ := hc i hil
        have hnx := cntN_next hil
        have hbd : cntN (nd.take (i + 1)) ≤ 600 := by have h1 := cntN_le (nd.take (i + 1)); have h2 := HLIM.out.1; rw [List.length_take] at h1; omega
        generalize (nd[i]).k = kk at c0 hnx
        subst hA
        clear hc hil hin hin1
        by_cases q1 : kk ≥ 10
        · by_cases q2 : kk ≤ 14
          · have d1 : decide (kk ≥ (10 : Int)) = true := decide_eq_true q1
            have d2 : decide (kk ≤ (14 : Int)) = true := decide_eq_true q2
            have d3 : (kk == 18) = false := by simp; omega
            have HNX : Hid ((cntN (nd.take (i + 1)) : Nat) = cntN (nd.take i) + 1) := Lib.hid (by rw [hnx]; unfold cntK; rw [if_pos (.inl ⟨q1, q2⟩)])
            generalize hN0 : cntN (nd.take i) = N0 at HNX ⊢

            have wn : IntKind.i64.wrap ((N0 : Int) + 1) = (N0 : Int) + 1 := IntWalk.i64_in _ (by have := HB0.out; rw [hN0] at this; omega)
            clear hN0 HB0 hnx hbd

            go_wp2_with fail
            go_roundg (gk - 1)
            case measure => go_light; have h1 := HIQ.out; have h2 := HIN.out; omega
            case rel => exact ⟨i + 1, by rw [HNX.out]; go_num, by go_num, by have h1 := HIQ.out; have h2 := HIN.out; go_light; omega, by have h2 := HIN.out; go_light; omega, KR.out⟩
          · by_cases q3 : kk = 17
            · subst q3
              have HNX : Hid ((cntN (nd.take (i + 1)) : Nat) = cntN (nd.take i) + 1) := Lib.hid (by rw [hnx]; unfold cntK; rfl)
              generalize hN0 : cntN (nd.take i) = N0 at HNX ⊢

              have wn : IntKind.i64.wrap ((N0 : Int) + 1) = (N0 : Int) + 1 := IntWalk.i64_in _ (by have := HB0.out; rw [hN0] at this; omega)
              clear hN0 HB0 hnx hbd

              go_wp2_with fail
              go_roundg (gk - 1)
              case measure => go_light; have h1 := HIQ.out; have h2 := HIN.out; omega
              case rel => exact ⟨i + 1, by rw [HNX.out]; go_num, by go_num, by have h1 := HIQ.out; have h2 := HIN.out; go_light; omega, by have h2 := HIN.out; go_light; omega, KR.out⟩
            · by_cases q4 : kk = 18
              · subst q4
                have HNX : Hid ((cntN (nd.take (i + 1)) : Nat) = cntN (nd.take i) + 2) := Lib.hid (by rw [hnx]; unfold cntK; rfl)
                generalize hN0 : cntN (nd.take i) = N0 at HNX ⊢

                have wn : IntKind.i64.wrap ((N0 : Int) + 2) = (N0 : Int) + 2 := IntWalk.i64_in _ (by have := HB0.out; rw [hN0] at this; omega)
                clear hN0 HB0 hnx hbd

                go_wp2_with fail
                go_roundg (gk - 1)
                case measure => go_light; have h1 := HIQ.out; have h2 := HIN.out; omega
                case rel => exact ⟨i + 1, by rw [HNX.out]; go_num, by go_num, by have h1 := HIQ.out; have h2 := HIN.out; go_light; omega, by have h2 := HIN.out; go_light; omega, KR.out⟩
              · have d1 : decide (kk ≥ (10 : Int)) = true := decide_eq_true q1
                have d2 : decide (kk ≤ (14 : Int)) = false := decide_eq_false q2
                have d4 : (kk == 17) = false := by simp; omega
                have d3 : (kk == 18) = false := by simp; omega
                have HNX : Hid ((cntN (nd.take (i + 1)) : Nat) = cntN (nd.take i) + 0) := Lib.hid (by rw [hnx]; unfold cntK; rw [if_neg (by omega), if_neg q4])
                generalize hN0 : cntN (nd.take i) = N0 at HNX ⊢

                have wn : IntKind.i64.wrap ((N0 : Int) + 1) = (N0 : Int) + 1 := IntWalk.i64_in _ (by have := HB0.out; rw [hN0] at this; omega)
                clear hN0 HB0 hnx hbd

                go_wp2_with fail
                go_roundg (gk - 1)
                case measure => go_light; have h1 := HIQ.out; have h2 := HIN.out; omega
                case rel => exact ⟨i + 1, by rw [HNX.out]; go_num, by go_num, by have h1 := HIQ.out; have h2 := HIN.out; go_light; omega, by have h2 := HIN.out; go_light; omega, KR.out⟩
        · have d1 : decide (kk ≥ (10 : Int)) = false := decide_eq_false q1
          have d4 : (kk == 17) = false := by simp; omega
          have d3 : (kk == 18) = false := by simp; omega
          have HNX : Hid ((cntN (nd.take (i + 1)) : Nat) = cntN (nd.take i) + 0) := Lib.hid (by rw [hnx]; unfold cntK; rw [if_neg (by omega), if_neg (by omega)])
          generalize hN0 : cntN (nd.take i) = N0 at HNX ⊢

          have wn : IntKind.i64.wrap ((N0 : Int) + 1) = (N0 : Int) + 1 := IntWalk.i64_in _ (by have := HB0.out; rw [hN0] at this; omega)
          clear hN0 HB0 hnx hbd

          go_wp2_with fail
          go_roundg (gk - 1)
          case measure => go_light; have h1 := HIQ.out; have h2 := HIN.out; omega
          case rel => exact ⟨i + 1, by rw [HNX.out]; go_num, by go_num, by have h1 := HIQ.out; have h2 := HIN.out; go_light; omega, by have h2 := HIN.out; go_light; omega, KR.out⟩
      · obtain rfl : m = i := by omega
        have hI : ¬ (m : Int) < (m : Int) := by omega
        have hdI : decide ((m : Int) < (m : Int)) = false := decide_eq_false hI
        have htk : nd.take m = nd := by rw [HM.out]; exact List.take_length
        obtain ⟨S, hS⟩ : ∃ S, S = ofL (textT ps) := ⟨_, rfl⟩
        have HS := Lib.hid hS
        have hcn : S.data.toList.count 10 = cntN (nd.take m) := by rw [hS, ofL_list, htk]; exact lines_of HWT.out
        have hsz : S.size ≤ 350000 := by rw [hS, ofL_size]; exact HTL.out
        have HCN := Lib.hid hcn
        have HSZ := Lib.hid hsz
        have TP : Hid (∀ w', Keeps (fun _ => False) w4 w' → Calls Tryd.prog 22 #[.agg #[.slice A m c, .slice A' k c']] w' fun r w'' => r = .returned (.string S) ∧ Keeps (fun _ => False) w' w'') := Lib.hid (fun w' q => by
          rw [HS.out]
          exact ptext_any qshow nd fs A A' m k c c' HM.out HK.out ps HRT.out.1 HRT.out.2.1 HRT.out.2.2 (by have := HTL.out; omega) HMB.out (by have := HLIM.out.2; omega) (fun p hp => by have := HP3.out p hp; omega) w' (HW4.out.keep q) (HT4.out.keep q))
        have TD := Lib.hid (TP.out wr KR.out)
        have x1 := (HX4.out.keeps KR.out).cells 1 _ rfl
        have KE := Lib.hid (K4.out.trans KR.out (fun _ _ h => h))
        generalize cntN (nd.take m) = N0 at HCN HB0 ⊢
        clear hin hin1 hS htk hcn hsz TP
        go_wp2_with fail
        refine TD.out.mono ?_
        rintro r w5 ⟨rfl, k5⟩
        have KF := Lib.hid (KE.out.trans k5 (fun _ _ h => h))
        obtain ⟨gl, hgl⟩ : ∃ x, x = gk := ⟨_, rfl⟩
        subst hgl
        obtain ⟨z, hz⟩ : ∃ z, z = S.size := ⟨_, rfl⟩
        have HZ := Lib.hid hz
        clear TD k5 x0 x1 hI hdI hz
        go_upto_region 17 with fail
        go_loopg [11, 12] (z + 1) (fun q s11 s12 wx => ∃ j : Nat, s11 = .int .i64 ((S.data.toList.take j).count 10 : Nat) ∧ s12 = .int .i64 j ∧ j + q = z + 1 ∧ j ≤ z ∧ wx = w5)
        case atStart => exact ⟨0, rfl, rfl, by omega, by omega, rfl⟩
        case round =>
          obtain ⟨j, rfl, rfl, hjq, hjn1, hwx⟩ := hrel
          have HJQ := Lib.hid hjq
          have HWX := Lib.hid hwx
          have hb0 : (S.data.toList.take j).count 10 ≤ 350000 := by have h1 := List.count_le_length (a := (10 : UInt8)) (l := S.data.toList.take j); have h2 := HSZ.out; rw [List.length_take, len_size] at h1; omega
          clear hjq hwx
          by_cases hjn : j < z
          · have hJ : (j : Int) < (S.size : Int) := by have := HZ.out; omega
            have hdJ : decide ((j : Int) < (S.size : Int)) = true := decide_eq_true hJ
            have hj0 : (0 : Int) ≤ (j : Int) := by omega
            have hjS : j < S.size := by omega
            have wj : IntKind.i64.wrap ((j : Int) + 1) = (j : Int) + 1 := IntWalk.i64_in _ (by have := HSZ.out; omega)
            have HJN := Lib.hid hjn
            have hnx := countq_next (at_byte S j hjS)
            by_cases q1 : S[j] = 10
            · have q2 : ((S[j].toNat : Int) == 10) = true := by rw [q1]; rfl
              rw [if_pos q1] at hnx
              have HNX := Lib.hid hnx
              obtain ⟨N2, hN2⟩ : ∃ n, n = (S.data.toList.take j).count 10 := ⟨_, rfl⟩
              have HNX0 : Hid ((S.data.toList.take (j + 1)).count 10 = N2 + 1) := Lib.hid (by rw [HNX.out, hN2])
              rw [← hN2] at hb0 ⊢
              have wn : IntKind.i64.wrap ((N2 : Int) + 1) = (N2 : Int) + 1 := IntWalk.i64_in _ (by omega)
              clear hnx hjn hjn1 q1 hb0 hN2 HNX
              go_wp2_with fail
              go_roundg (gk - 1)
              case measure => go_light; have h1 := HJQ.out; have h2 := HJN.out; omega
              case rel => exact ⟨j + 1, by rw [HNX0.out]; go_num, by go_num, by have h1 := HJQ.out; have h2 := HJN.out; go_light; omega, by have h2 := HJN.out; go_light; omega, HWX.out⟩
            · have q2 : ((S[j].toNat : Int) == 10) = false := by
                simp only [beq_eq_false_iff_ne, ne_eq]
                intro h
                apply q1
                have h3 : S[j].toNat = 10 := by omega
                exact UInt8.toNat_inj.1 h3
              rw [if_neg q1] at hnx
              have HNX := Lib.hid hnx
              clear hnx hjn hjn1 q1 hb0
              go_wp2_with fail
              go_roundg (gk - 1)
              case measure => go_light; have h1 := HJQ.out; have h2 := HJN.out; omega
              case rel => exact ⟨j + 1, by rw [HNX.out]; rfl, by go_num, by have h1 := HJQ.out; have h2 := HJN.out; go_light; omega, by have h2 := HJN.out; go_light; omega, HWX.out⟩
          · obtain rfl : z = j := by omega
            have hJ : ¬ (z : Int) < (S.size : Int) := by have := HZ.out; omega
            have hdJ : decide ((z : Int) < (S.size : Int)) = false := decide_eq_false hJ
            have htk : (S.data.toList.take z).count 10 = N0 := by rw [← HCN.out, HZ.out, ← len_size, List.take_length]
            rw [htk]
            have hnn : ((N0 : Int) == (N0 : Int)) = true := by simp
            clear hjn hjn1 htk hb0
            go_wp2_with fail
            go_ret
            exact ⟨rfl, by rw [HWX.out]; exact KF.out⟩
  · have hne : ((erOf res : Int) != 0) = true := by simp; omega
    generalize (ndsOf res).length = nm at RC
    generalize (fnsOf res).length = nk at RC
    generalize (atOf res : Int) = ax at RC
    generalize (erOf res : Int) = ex at RC hne
    clear hres he0
    go_wp2_with fail
    refine RC.out.mono ?_
    rintro e w3 ⟨A, c, A', c', rfl, hTr, k3⟩
    have K3 := Lib.hid (K1.out.trans k3 (fun _ _ h => h))
    clear RC K1 k3 hTr
    go_upto_region 3 with fail
    have ka := Keeps.one w3 (.cells #[.slice A nm c, .slice A' nk c'] 27)
    obtain ⟨w4, hw⟩ : ∃ w4, w4 = w3.alloc (.cells #[.slice A nm c, .slice A' nk c'] 27) := ⟨_, rfl⟩
    rw [← hw] at ka ⊢
    have K4 := Lib.hid (K3.out.trans ka (fun _ _ h => h))
    generalize w3.heap.size = X4
    clear ka hw K3
    go_wp2_with fail
    go_ret
    exact ⟨rfl, K4.out⟩
end Go.Proofs.YtgelggdgbmldiaaDoor
