/-
  Layer 3: ShowAll. Written by an AI agent.
-/
import Derived.Lib.Bytealg
import Derived.Test.YtgelggdgbmldiaaDoorChecked
import Derived.Laws.OwnMore
import Derived.Laws.AppendOwnNone
import Derived.OwnWalk
import Derived.Lib.AppendZerosOnto
import Derived.Below
import Derived.Stop.Walk2
import Derived.WalkKit
import Derived.WalkLawsBesides
import Derived.WalkSpells
import Derived.Outline
import Derived.BigQuiet
import Derived.Deep.CutBlock
import Derived.Deep.CutRange
import Derived.Deep.DeepCutAuto
import Derived.Deep.RegionHeld3
import Derived.Deep.RegionLaw
import Derived.Deep.RegionWith
import Derived.StillTailTactics
import Derived.RegionTactic
import Derived.Laws.StructEq
import Derived.Lib.Hide
import Derived.Shelf.Abstract
import Derived.Shelf.Lay
import Derived.Ground.NamesProg
import Derived.Shelf.Strings.Prefix
import Derived.Shelf.Small.Strs
import Derived.Shelf.Strings.Count
import Derived.Shelf.Strconv.ErrVarParseInt
import Derived.WalkMore
import Derived.Scope
import Derived.Shelf.Slices.Turned
import Derived.Lib.SlicesS
import Derived.Deep.RegionHeld
import Derived.Deep.LoopGhost
import Derived.Deep.Light
import Derived.Shelf.Strconv.Itoa3
import Derived.Lib.LaidTab
import Derived.Lib.ItoaLen
import Derived.Maps.Own
import Derived.Maps.OwnOps
import Derived.StringKeys
import Derived.Shelf.Strings.OnBuilder
import Derived.Shelf.Strings.BuilderCap
import Derived.Shelf.Strings.BuilderK
import Derived.Shelf.Strconv.AtoiAll
import Derived.Deep.OwnRows
import Derived.Test.YtgelggdgbmldiaaDoorMcaa
import Derived.Test.YtgelggdgbmldiaaDoorMcab
import Derived.Test.YtgelggdgbmldiaaDoorMcac
import Derived.Test.YtgelggdgbmldiaaDoorMcad
import Derived.Test.YtgelggdgbmldiaaDoorMcae
import Derived.Test.YtgelggdgbmldiaaDoorMcaf
import Derived.Test.YtgelggdgbmldiaaDoorMcag
import Derived.Test.YtgelggdgbmldiaaDoorMcah
import Derived.Test.YtgelggdgbmldiaaDoorMcai
import Derived.Test.YtgelggdgbmldiaaDoorMcaj
import Derived.Test.YtgelggdgbmldiaaDoorMcak
import Derived.Test.YtgelggdgbmldiaaDoorMcal
import Derived.Test.YtgelggdgbmldiaaDoorMcam
import Derived.Test.YtgelggdgbmldiaaDoorMcan
import Derived.Test.YtgelggdgbmldiaaDoorMcao
import Derived.Test.YtgelggdgbmldiaaDoorMcap
import Derived.Test.YtgelggdgbmldiaaDoorMcaq
import Derived.Test.YtgelggdgbmldiaaDoorMcar
import Derived.Test.YtgelggdgbmldiaaDoorMcas
import Derived.Test.YtgelggdgbmldiaaDoorMcat
import Derived.Test.YtgelggdgbmldiaaDoorMcau
import Derived.Test.YtgelggdgbmldiaaDoorMcav
import Derived.Test.YtgelggdgbmldiaaDoorMcaw
import Derived.Test.YtgelggdgbmldiaaDoorMcax
import Derived.Test.YtgelggdgbmldiaaDoorMcay
import Derived.Test.YtgelggdgbmldiaaDoorMcaz
import Derived.Test.YtgelggdgbmldiaaDoorMcba
import Derived.Test.YtgelggdgbmldiaaDoorMcbb
import Derived.Test.YtgelggdgbmldiaaDoorMcbc
import Derived.Test.YtgelggdgbmldiaaDoorMcbd
import Derived.Test.YtgelggdgbmldiaaDoorMcbe
import Derived.Test.YtgelggdgbmldiaaDoorMcbf
import Derived.Test.YtgelggdgbmldiaaDoorMcbg
import Derived.Test.YtgelggdgbmldiaaDoorMcbh
import Derived.Test.YtgelggdgbmldiaaDoorMcbi
import Derived.Test.YtgelggdgbmldiaaDoorMcbj
import Derived.Test.YtgelggdgbmldiaaDoorMcbk
import Derived.Test.YtgelggdgbmldiaaDoorMcbl
import Derived.Test.YtgelggdgbmldiaaDoorMcbm
import Derived.Test.YtgelggdgbmldiaaDoorMcbn
import Derived.Test.YtgelggdgbmldiaaDoorMcbo
import Derived.Test.YtgelggdgbmldiaaDoorMeaa
import Derived.Test.YtgelggdgbmldiaaDoorMeab
import Derived.Test.YtgelggdgbmldiaaDoorMeac
import Derived.Test.YtgelggdgbmldiaaDoorMead
import Derived.Test.YtgelggdgbmldiaaDoorMeae
import Derived.Test.YtgelggdgbmldiaaDoorMeaf
import Derived.Test.YtgelggdgbmldiaaDoorMeag
import Derived.Test.YtgelggdgbmldiaaDoorMeah
namespace Go.Proofs.YtgelggdgbmldiaaDoor
open Go Go.RowKit Go.Shelf
set_option linter.unusedVariables false
set_option linter.unusedSimpArgs false
set_option maxRecDepth 100000 in
set_option maxHeartbeats 32000000 in
theorem showall_walk (s0 : ByteArray) (w : World) (hw : ShW w) (HC : Hid (Calls Tryd.prog 15 #[] w fun e w' => e = .returned (.bool true) ∧ Keeps (fun _ => False) w w')) : Calls Tryd.prog 7 #[.string s0] w fun e w' => e = .returned (.bool true) ∧ Keeps (fun _ => False) w w' := by
  have HW := Lib.hid hw
  clear hw
  go_enter Tryd.func7, Tryd.ntmps7
  go_wp2_with fail
  refine HC.out.mono ?_
  rintro e w1 ⟨rfl, k1⟩
  have K1 := Lib.hid k1
  have SC := Lib.hid (short3_any s0 w1)
  clear HC k1
  go_wp2_with fail
  refine SC.out.mono ?_
  rintro e w2 ⟨⟨t, ht, rfl⟩, rfl⟩
  obtain ⟨res, hres⟩ := allP_some t.data.toList 6100 (Nat.le_refl _)
  have RC := Lib.hid (rsrc_any t (by omega) res hres w2)
  clear SC ht
  by_cases he0 : erOf res = 0
  · obtain ⟨nd, fs, rfl⟩ := er_tree hres he0
    obtain ⟨la, na, _⟩ := tree_out (Nat.le_refl _) hres
    obtain ⟨ps, RT⟩ := tree_rep hres (qt_of _ na la)
    have HF : Fit nd fs := fit_of hres
    obtain ⟨m, hm⟩ : ∃ m, m = nd.length := ⟨_, rfl⟩
    obtain ⟨k, hk⟩ : ∃ k, k = fs.length := ⟨_, rfl⟩
    have hQ : ∀ s, qshow s → s.length ≤ 1000 := fun s h => h
    have hsum : sumC nd ≤ 318000 := by
      have h1 := sumC_le hQ nd RT.names
      have h2 := HF.nds
      omega
    have hp3 : ∀ p ∈ ps, p.1.ps.length ≤ 3 := fun p hp => HF.prs p.1 (by rw [RT.fns]; exact List.mem_map.2 ⟨p, hp, rfl⟩)
    have hps : ps.length ≤ 6 := by have h1 := HF.fns; rw [RT.fns, List.length_map] at h1; exact h1
    have htl : (textT ps).length ≤ 350000 := by
      have h1 := textT_len hQ ps RT.ok hp3 RT.rep
      have h2 := RT.mass
      omega
    have hmb : ∀ p ∈ ps, massB p.2 ≤ 800000 := fun p hp => by
      have h1 := massF_mem ps p hp
      have h2 := RT.mass
      omega
    have HRT := Lib.hid RT
    have HSUM := Lib.hid hsum
    have HTL := Lib.hid htl
    have HMB := Lib.hid hmb
    have HP3 := Lib.hid hp3
    have HM := Lib.hid hm
    have HK := Lib.hid hk
    have HLIM : Hid (m ≤ 300 ∧ k ≤ 6) := Lib.hid ⟨by rw [hm]; exact HF.nds, by rw [hk]; exact HF.fns⟩
    have RC : Hid (Calls Tryd.prog 16 #[.string t] w2 fun e w' => ∃ A c A' c', e = .returned (.tuple #[.agg #[.slice A m c, .slice A' k c'], .int .i64 0, .int .i64 0]) ∧ TreeR 0 w' A A' nd fs ∧ Keeps (fun _ => False) w2 w') := Lib.hid (by rw [hm, hk]; exact RC.out)
    clear hm hk hQ hsum hp3 hps htl hmb RT HF hres he0 la na
    rename_i RC0
    clear RC0
    go_wp2_with fail
    refine RC.out.mono ?_
    rintro e w3 ⟨A, c, A', c', rfl, hTr, k3⟩
    have K3 := Lib.hid (K1.out.trans k3 (fun _ _ h => h))
    have HT3 := Lib.hid hTr
    clear RC K1 k3 hTr
    go_upto_region 3 with fail
    have ka := Keeps.one w3 (.cells #[.slice A m c, .slice A' k c'] 27)
    obtain ⟨P1, hP1⟩ : ∃ X, X = w3.heap.size := ⟨_, rfl⟩
    obtain ⟨w4, hw4⟩ : ∃ w4, w4 = w3.alloc (.cells #[.slice A m c, .slice A' k c'] 27) := ⟨_, rfl⟩
    have HX4 : Hid (Loc w4 (fun _ => False) P1 [.slice A m c, .slice A' k c']) := Lib.hid (by rw [hw4, hP1]; exact Loc.new (fun h => h) [.slice A m c, .slice A' k c'] 27)
    rw [← hP1]
    rw [← hw4] at ka ⊢
    have K4 := Lib.hid (K3.out.trans ka (fun _ _ h => h))
    have HT4 := Lib.hid (HT3.out.keep ka)
    have HW4 := Lib.hid (HW.out.keep K4.out)
    clear ka hw4 hP1 K3 HT3 HW
    go_upto_region 6 with fail
    go_loopg [7, 8, 9] (m + 1) (fun q s7 s8 s9 wr => ∃ i : Nat, s7 = .int .i64 i ∧ i + q = m + 1 ∧ i ≤ m ∧ Keeps (fun _ => False) w4 wr)
    case atStart => exact ⟨0, rfl, by omega, by omega, Keeps.refl _ _⟩
    case round =>
      obtain ⟨i, rfl, hiq, hin1, kr⟩ := hrel
      have KR := Lib.hid kr
      have HIQ := Lib.hid hiq
      have HTr := Lib.hid (HT4.out.keep kr)
      have HWr := Lib.hid (HW4.out.keep kr)
      have x0 := (HX4.out.keeps kr).cells 0 _ rfl
      have x1 := (HX4.out.keeps kr).cells 1 _ rfl
      clear hiq kr
      by_cases hin : i < m
      · have hI : (i : Int) < (m : Int) := by omega
        have hdI : decide ((i : Int) < (m : Int)) = true := decide_eq_true hI
        have hi0 : (0 : Int) ≤ (i : Int) := by omega
        have wi : IntKind.i64.wrap ((i : Int) + 1) = (i : Int) + 1 := IntWalk.i64_in _ (by have := HLIM.out.1; omega)
        have HIN := Lib.hid hin
        obtain ⟨it, hit, hmi⟩ := HRT.out.every i (by rw [← HM.out]; exact hin)
        obtain ⟨kk, nn, nm, l, hat, h9, hright⟩ := node_shows hit
        obtain ⟨j, b, off, ln, a, cc, hij, hj, hA, hn⟩ := HTr.out.node hat
        have hij : i = j := by omega
        subst hij
        obtain ⟨ll, hll⟩ : ∃ n, n = l.length := ⟨_, rfl⟩
        have LP : Hid (∀ w', Keeps (fun _ => False) wr w' → Calls Tryd.prog 18 #[.agg #[.int .i64 kk, .int .i64 ln, .int .i64 nn, .string (ofL nm), .slice a ll cc]] w' fun r w'' => r = .returned (.int .i64 (levK kk nm : Nat)) ∧ Keeps (fun _ => False) wr w'') := Lib.hid (fun w' q => (plevel_any kk ln nn nm a ll cc w' h9).mono fun r w'' ⟨h1, h2⟩ => ⟨h1, q.trans h2 (fun _ _ h => h)⟩)
        have LR : Hid (∀ w', Keeps (fun _ => False) wr w' → Calls Tryd.prog 19 #[.agg #[.int .i64 kk, .int .i64 ln, .int .i64 nn, .string (ofL nm), .slice a ll cc]] w' fun r w'' => r = .returned (.int .i64 (levK kk nm : Nat)) ∧ Keeps (fun _ => False) wr w'') := Lib.hid (fun w' q => (rlevel_any kk ln nn nm a ll cc w' h9).mono fun r w'' ⟨h1, h2⟩ => ⟨h1, q.trans h2 (fun _ _ h => h)⟩)
        generalize levK kk nm = lev at LP LR
        have bl0 : ((lev : Int) != (lev : Int)) = false := by simp
        have c0 := hn.c0
        have c1 := hn.c1
        have c2 := hn.c2
        have c3 := hn.c3
        have c4 := hn.c4
        rw [← hll] at c4
        have HRIGHT := Lib.hid hright
        have HMI := Lib.hid hmi
        have HA := Lib.hid hA
        replace x0 : wr.cell? ⟨P1, 0, none⟩ = some (.slice (some ⟨b, off, none⟩) m c) := by rw [← hA]; exact x0
        have hkk : kk ≤ 9 ∨ 19 ≤ kk ∨ ¬ (kk ≤ 9 ∨ 19 ≤ kk) := by omega
        rcases hkk with hkk | hkk | hkk
        · have d1 : decide (kk ≤ 9) = true := decide_eq_true hkk
          obtain ⟨rt, hrt, hmr⟩ := hright (.inl hkk)
          obtain ⟨S, hS⟩ : ∃ S, S = ofL (showR rt) := ⟨_, rfl⟩
          have HS := Lib.hid hS
          have HR0 := Lib.hid hrt
          have bs : (S.toList == S.toList) = true := by simp
          have hmr9 : massR rt ≤ 900000 := by have := HSUM.out; omega
          have HMR := Lib.hid hmr9
          have EP : Hid (∀ w', Keeps (fun _ => False) wr w' → Calls Tryd.prog 20 #[.agg #[.slice (some ⟨b, off, none⟩) m c, .slice A' k c'], .int .i64 i] w' fun r w'' => r = .returned (.string S) ∧ Keeps (fun _ => False) wr w'') := Lib.hid (fun w' q => by
            rw [HS.out, ← HA.out]
            exact (pright_all qshow nd fs A A' m k c c' HM.out rt HMR.out i w' (HWr.out.keep q) (HTr.out.keep q) HR0.out).mono fun r w'' ⟨h1, h2⟩ => ⟨h1, q.trans h2 (fun _ _ h => h)⟩)
          have ER : Hid (∀ w', Keeps (fun _ => False) wr w' → Calls Tryd.prog 21 #[.agg #[.slice (some ⟨b, off, none⟩) m c, .slice A' k c'], .int .i64 i] w' fun r w'' => r = .returned (.string S) ∧ Keeps (fun _ => False) wr w'') := Lib.hid (fun w' q => by
            rw [HS.out, ← HA.out]
            exact (rright_all qshow nd fs A A' m k c c' HM.out rt HMR.out i w' (HWr.out.keep q) (HTr.out.keep q) HR0.out).mono fun r w'' ⟨h1, h2⟩ => ⟨h1, q.trans h2 (fun _ _ h => h)⟩)
          have SK0 : Hid (∀ w', Keeps (fun _ => False) wr w' → (w'.cell? ⟨P1, 0, none⟩ = some (.slice (some ⟨b, off, none⟩) m c) ∧ w'.cell? ⟨P1, 1, none⟩ = some (.slice A' k c')) ∧ Keeps (fun _ => False) wr w') := Lib.hid (fun w' q => ⟨⟨(q.cell (cell_ltk x0) (fun h => h)).trans x0, (q.cell (cell_ltk x1) (fun h => h)).trans x1⟩, q⟩)
          have SK : Hid (∀ w', Keeps (fun _ => False) wr w' → (w'.cell? ⟨P1, 0, none⟩ = some (.slice (some ⟨b, off, none⟩) m c) ∧ w'.cell? ⟨b, (off + i * 5), none⟩ = some (.int .i64 kk) ∧ w'.cell? ⟨b, (off + i * 5 + 1), none⟩ = some (.int .i64 ln) ∧ w'.cell? ⟨b, (off + i * 5 + 2), none⟩ = some (.int .i64 nn) ∧ w'.cell? ⟨b, (off + i * 5 + 3), none⟩ = some (.string (ofL nm)) ∧ w'.cell? ⟨b, (off + i * 5 + 4), none⟩ = some (.slice a ll cc)) ∧ Keeps (fun _ => False) wr w') := Lib.hid (fun w' q => ⟨⟨(q.cell (cell_ltk x0) (fun h => h)).trans x0, (q.cell (cell_ltk c0) (fun h => h)).trans c0, (q.cell (cell_ltk c1) (fun h => h)).trans c1, (q.cell (cell_ltk c2) (fun h => h)).trans c2, (q.cell (cell_ltk c3) (fun h => h)).trans c3, (q.cell (cell_ltk c4) (fun h => h)).trans c4⟩, q⟩)
          clear hit hat h9 hj hA hn hll hmi hin hin1 hS hrt hmr hmr9 hright
          go_upto_region 9 with fail
          go_region_held3 (fun w' => (w'.cell? ⟨P1, 0, none⟩ = some (.slice (some ⟨b, off, none⟩) m c) ∧ w'.cell? ⟨b, (off + i * 5), none⟩ = some (.int .i64 kk) ∧ w'.cell? ⟨b, (off + i * 5 + 1), none⟩ = some (.int .i64 ln) ∧ w'.cell? ⟨b, (off + i * 5 + 2), none⟩ = some (.int .i64 nn) ∧ w'.cell? ⟨b, (off + i * 5 + 3), none⟩ = some (.string (ofL nm)) ∧ w'.cell? ⟨b, (off + i * 5 + 4), none⟩ = some (.slice a ll cc)) ∧ Keeps (fun _ => False) wr w') (first | exact SK.out _ (Keeps.refl _ _) | exact SK.out _ (by assumption) | exact SK.out _ ((Keeps.refl _ _).drew) | exact SK.out _ (Keeps.drew (by assumption))) (first | (go_at_call 18; refine (LP.out _ (by first | assumption | exact (Keeps.refl _ _).drew | exact Keeps.drew (by assumption) | exact Keeps.refl _ _)).mono ?_; rintro r w8 ⟨rfl, k8⟩) | (go_at_call 19; refine (LR.out _ (by first | assumption | exact (Keeps.refl _ _).drew | exact Keeps.drew (by assumption) | exact Keeps.refl _ _)).mono ?_; rintro r w8 ⟨rfl, k8⟩))
          all_goals go_upto_region 12 with fail
          all_goals go_region_held3 (fun w' => (w'.cell? ⟨P1, 0, none⟩ = some (.slice (some ⟨b, off, none⟩) m c) ∧ w'.cell? ⟨P1, 1, none⟩ = some (.slice A' k c')) ∧ Keeps (fun _ => False) wr w') (first | exact SK0.out _ (Keeps.refl _ _) | exact SK0.out _ (by assumption) | exact SK0.out _ ((Keeps.refl _ _).drew) | exact SK0.out _ (Keeps.drew (by assumption))) (first | (go_at_call 20; refine (EP.out _ (by first | assumption | exact (Keeps.refl _ _).drew | exact Keeps.drew (by assumption) | exact Keeps.refl _ _)).mono ?_; rintro r w8 ⟨rfl, k8⟩) | (go_at_call 21; refine (ER.out _ (by first | assumption | exact (Keeps.refl _ _).drew | exact Keeps.drew (by assumption) | exact Keeps.refl _ _)).mono ?_; rintro r w8 ⟨rfl, k8⟩))
          all_goals go_wp2_with fail
          all_goals go_roundg (gk - 1)
          all_goals first
            | (go_light; have h1 := HIQ.out; have h2 := HIN.out; omega)
            | exact ⟨i + 1, by go_num, by have h1 := HIQ.out; have h2 := HIN.out; go_light; omega, by have h2 := HIN.out; go_light; omega, by first | exact KR.out.trans (by assumption) (fun _ _ h => h) | exact KR.out.trans (Keeps.drew (by assumption)) (fun _ _ h => h)⟩
        · have hk9 : ¬ kk ≤ 9 := by have h2 : ¬ (kk ≤ 9) ∨ kk ≤ 9 := by omega
                                    rcases h2 with h2 | h2
                                    · exact h2
                                    · omega
          have d1 : decide (kk ≤ 9) = false := decide_eq_false hk9
          have d2 : decide (kk ≥ (19 : Int)) = true := decide_eq_true hkk
          obtain ⟨rt, hrt, hmr⟩ := hright (.inr hkk)
          obtain ⟨S, hS⟩ : ∃ S, S = ofL (showR rt) := ⟨_, rfl⟩
          have HS := Lib.hid hS
          have HR0 := Lib.hid hrt
          have bs : (S.toList == S.toList) = true := by simp
          have hmr9 : massR rt ≤ 900000 := by have := HSUM.out; omega
          have HMR := Lib.hid hmr9
          have EP : Hid (∀ w', Keeps (fun _ => False) wr w' → Calls Tryd.prog 20 #[.agg #[.slice (some ⟨b, off, none⟩) m c, .slice A' k c'], .int .i64 i] w' fun r w'' => r = .returned (.string S) ∧ Keeps (fun _ => False) wr w'') := Lib.hid (fun w' q => by
            rw [HS.out, ← HA.out]
            exact (pright_all qshow nd fs A A' m k c c' HM.out rt HMR.out i w' (HWr.out.keep q) (HTr.out.keep q) HR0.out).mono fun r w'' ⟨h1, h2⟩ => ⟨h1, q.trans h2 (fun _ _ h => h)⟩)
          have ER : Hid (∀ w', Keeps (fun _ => False) wr w' → Calls Tryd.prog 21 #[.agg #[.slice (some ⟨b, off, none⟩) m c, .slice A' k c'], .int .i64 i] w' fun r w'' => r = .returned (.string S) ∧ Keeps (fun _ => False) wr w'') := Lib.hid (fun w' q => by
            rw [HS.out, ← HA.out]
            exact (rright_all qshow nd fs A A' m k c c' HM.out rt HMR.out i w' (HWr.out.keep q) (HTr.out.keep q) HR0.out).mono fun r w'' ⟨h1, h2⟩ => ⟨h1, q.trans h2 (fun _ _ h => h)⟩)
          have SK0 : Hid (∀ w', Keeps (fun _ => False) wr w' → (w'.cell? ⟨P1, 0, none⟩ = some (.slice (some ⟨b, off, none⟩) m c) ∧ w'.cell? ⟨P1, 1, none⟩ = some (.slice A' k c')) ∧ Keeps (fun _ => False) wr w') := Lib.hid (fun w' q => ⟨⟨(q.cell (cell_ltk x0) (fun h => h)).trans x0, (q.cell (cell_ltk x1) (fun h => h)).trans x1⟩, q⟩)
          have SK : Hid (∀ w', Keeps (fun _ => False) wr w' → (w'.cell? ⟨P1, 0, none⟩ = some (.slice (some ⟨b, off, none⟩) m c) ∧ w'.cell? ⟨b, (off + i * 5), none⟩ = some (.int .i64 kk) ∧ w'.cell? ⟨b, (off + i * 5 + 1), none⟩ = some (.int .i64 ln) ∧ w'.cell? ⟨b, (off + i * 5 + 2), none⟩ = some (.int .i64 nn) ∧ w'.cell? ⟨b, (off + i * 5 + 3), none⟩ = some (.string (ofL nm)) ∧ w'.cell? ⟨b, (off + i * 5 + 4), none⟩ = some (.slice a ll cc)) ∧ Keeps (fun _ => False) wr w') := Lib.hid (fun w' q => ⟨⟨(q.cell (cell_ltk x0) (fun h => h)).trans x0, (q.cell (cell_ltk c0) (fun h => h)).trans c0, (q.cell (cell_ltk c1) (fun h => h)).trans c1, (q.cell (cell_ltk c2) (fun h => h)).trans c2, (q.cell (cell_ltk c3) (fun h => h)).trans c3, (q.cell (cell_ltk c4) (fun h => h)).trans c4⟩, q⟩)
          clear hit hat h9 hj hA hn hll hmi hin hin1 hS hrt hmr hmr9 hright
          go_upto_region 9 with fail
          go_region_held3 (fun w' => (w'.cell? ⟨P1, 0, none⟩ = some (.slice (some ⟨b, off, none⟩) m c) ∧ w'.cell? ⟨b, (off + i * 5), none⟩ = some (.int .i64 kk) ∧ w'.cell? ⟨b, (off + i * 5 + 1), none⟩ = some (.int .i64 ln) ∧ w'.cell? ⟨b, (off + i * 5 + 2), none⟩ = some (.int .i64 nn) ∧ w'.cell? ⟨b, (off + i * 5 + 3), none⟩ = some (.string (ofL nm)) ∧ w'.cell? ⟨b, (off + i * 5 + 4), none⟩ = some (.slice a ll cc)) ∧ Keeps (fun _ => False) wr w') (first | exact SK.out _ (Keeps.refl _ _) | exact SK.out _ (by assumption) | exact SK.out _ ((Keeps.refl _ _).drew) | exact SK.out _ (Keeps.drew (by assumption))) (first | (go_at_call 18; refine (LP.out _ (by first | assumption | exact (Keeps.refl _ _).drew | exact Keeps.drew (by assumption) | exact Keeps.refl _ _)).mono ?_; rintro r w8 ⟨rfl, k8⟩) | (go_at_call 19; refine (LR.out _ (by first | assumption | exact (Keeps.refl _ _).drew | exact Keeps.drew (by assumption) | exact Keeps.refl _ _)).mono ?_; rintro r w8 ⟨rfl, k8⟩))
          all_goals go_upto_region 12 with fail
          all_goals go_region_held3 (fun w' => (w'.cell? ⟨P1, 0, none⟩ = some (.slice (some ⟨b, off, none⟩) m c) ∧ w'.cell? ⟨P1, 1, none⟩ = some (.slice A' k c')) ∧ Keeps (fun _ => False) wr w') (first | exact SK0.out _ (Keeps.refl _ _) | exact SK0.out _ (by assumption) | exact SK0.out _ ((Keeps.refl _ _).drew) | exact SK0.out _ (Keeps.drew (by assumption))) (first | (go_at_call 20; refine (EP.out _ (by first | assumption | exact (Keeps.refl _ _).drew | exact Keeps.drew (by assumption) | exact Keeps.refl _ _)).mono ?_; rintro r w8 ⟨rfl, k8⟩) | (go_at_call 21; refine (ER.out _ (by first | assumption | exact (Keeps.refl _ _).drew | exact Keeps.drew (by assumption) | exact Keeps.refl _ _)).mono ?_; rintro r w8 ⟨rfl, k8⟩))
          all_goals go_wp2_with fail
          all_goals go_roundg (gk - 1)
          all_goals first
            | (go_light; have h1 := HIQ.out; have h2 := HIN.out; omega)
            | exact ⟨i + 1, by go_num, by have h1 := HIQ.out; have h2 := HIN.out; go_light; omega, by have h2 := HIN.out; go_light; omega, by first | exact KR.out.trans (by assumption) (fun _ _ h => h) | exact KR.out.trans (Keeps.drew (by assumption)) (fun _ _ h => h)⟩
        · have hk9 : ¬ kk ≤ 9 := fun h => hkk (.inl h)
          have hk19 : ¬ (19 : Int) ≤ kk := fun h => hkk (.inr h)
          have d1 : decide (kk ≤ 9) = false := decide_eq_false hk9
          have d2 : decide (kk ≥ (19 : Int)) = false := decide_eq_false hk19
          clear hkk hright
          have SK : Hid (∀ w', Keeps (fun _ => False) wr w' → (w'.cell? ⟨P1, 0, none⟩ = some (.slice (some ⟨b, off, none⟩) m c) ∧ w'.cell? ⟨b, (off + i * 5), none⟩ = some (.int .i64 kk) ∧ w'.cell? ⟨b, (off + i * 5 + 1), none⟩ = some (.int .i64 ln) ∧ w'.cell? ⟨b, (off + i * 5 + 2), none⟩ = some (.int .i64 nn) ∧ w'.cell? ⟨b, (off + i * 5 + 3), none⟩ = some (.string (ofL nm)) ∧ w'.cell? ⟨b, (off + i * 5 + 4), none⟩ = some (.slice a ll cc)) ∧ Keeps (fun _ => False) wr w') := Lib.hid (fun w' q => ⟨⟨(q.cell (cell_ltk x0) (fun h => h)).trans x0, (q.cell (cell_ltk c0) (fun h => h)).trans c0, (q.cell (cell_ltk c1) (fun h => h)).trans c1, (q.cell (cell_ltk c2) (fun h => h)).trans c2, (q.cell (cell_ltk c3) (fun h => h)).trans c3, (q.cell (cell_ltk c4) (fun h => h)).trans c4⟩, q⟩)
          clear hit hat h9 hj hA hn hll hmi hin hin1
          go_upto_region 9 with fail
          go_region_held3 (fun w' => (w'.cell? ⟨P1, 0, none⟩ = some (.slice (some ⟨b, off, none⟩) m c) ∧ w'.cell? ⟨b, (off + i * 5), none⟩ = some (.int .i64 kk) ∧ w'.cell? ⟨b, (off + i * 5 + 1), none⟩ = some (.int .i64 ln) ∧ w'.cell? ⟨b, (off + i * 5 + 2), none⟩ = some (.int .i64 nn) ∧ w'.cell? ⟨b, (off + i * 5 + 3), none⟩ = some (.string (ofL nm)) ∧ w'.cell? ⟨b, (off + i * 5 + 4), none⟩ = some (.slice a ll cc)) ∧ Keeps (fun _ => False) wr w') (first | exact SK.out _ (Keeps.refl _ _) | exact SK.out _ (by assumption) | exact SK.out _ ((Keeps.refl _ _).drew) | exact SK.out _ (Keeps.drew (by assumption))) (first | (go_at_call 18; refine (LP.out _ (by first | assumption | exact (Keeps.refl _ _).drew | exact Keeps.drew (by assumption) | exact Keeps.refl _ _)).mono ?_; rintro r w8 ⟨rfl, k8⟩) | (go_at_call 19; refine (LR.out _ (by first | assumption | exact (Keeps.refl _ _).drew | exact Keeps.drew (by assumption) | exact Keeps.refl _ _)).mono ?_; rintro r w8 ⟨rfl, k8⟩))
          all_goals go_upto_region 12 with fail
          refine wp_region_held_drew (S := fun w' => True) (by kernel_rfl) (trivial) (fun hHeld => ?_)
          refine wpAnyH_take (i := 0) (v := ?_) rfl (by kernel_rfl) (by kernel_rfl) (by kernel_rfl) (fun _ _ _ h => h) (Or.inl ⟨by rfl, ?_⟩) (by assumption) ?_
          rotate_left
          · (intro w' hSw; (try dsimp only at hSw); go_simp; (try (with_reducible rfl)))
          simp only [Act.put, List.getElem_toArray, List.getElem_cons_zero, List.setIfInBounds_toArray, List.set_cons_succ, List.set_cons_zero]
          refine wpAnyH_take (i := 1) (v := ?_) rfl (by kernel_rfl) (by kernel_rfl) (by kernel_rfl) (fun _ _ _ h => h) (Or.inl ⟨by rfl, ?_⟩) (by assumption) ?_
          rotate_left
          · (intro w' hSw; (try dsimp only at hSw); go_simp; (try (with_reducible rfl)))
          simp only [Act.put, List.getElem_toArray, List.getElem_cons_succ, List.getElem_cons_zero, List.setIfInBounds_toArray, List.set_cons_succ, List.set_cons_zero]
          refine wpAnyH_take (i := 2) (v := undef) rfl (by kernel_rfl) (by kernel_rfl) (by kernel_rfl) (fun _ _ _ h => h) (Or.inr ⟨by rfl, rfl⟩) (by assumption) ?_
          simp only [Act.put, List.getElem_toArray, List.getElem_cons_succ, List.getElem_cons_zero, List.setIfInBounds_toArray, List.set_cons_succ, List.set_cons_zero]
          refine wpAnyH_take (i := 3) (v := undef) rfl (by kernel_rfl) (by kernel_rfl) (by kernel_rfl) (fun _ _ _ h => h) (Or.inr ⟨by rfl, rfl⟩) (by assumption) ?_
          simp only [Act.put, List.getElem_toArray, List.getElem_cons_succ, List.getElem_cons_zero, List.setIfInBounds_toArray, List.set_cons_succ, List.set_cons_zero]
          refine wpAnyH_take (i := 4) (v := undef) rfl (by kernel_rfl) (by kernel_rfl) (by kernel_rfl) (fun _ _ _ h => h) (Or.inr ⟨by rfl, rfl⟩) (by assumption) ?_
          simp only [Act.put, List.getElem_toArray, List.getElem_cons_succ, List.getElem_cons_zero, List.setIfInBounds_toArray, List.set_cons_succ, List.set_cons_zero]
          refine wpAnyH_take (i := 5) (v := undef) rfl (by kernel_rfl) (by kernel_rfl) (by kernel_rfl) (fun _ _ _ h => h) (Or.inr ⟨by rfl, rfl⟩) (by assumption) ?_
          simp only [Act.put, List.getElem_toArray, List.getElem_cons_succ, List.getElem_cons_zero, List.setIfInBounds_toArray, List.set_cons_succ, List.set_cons_zero]
          refine wpAnyH_take (i := 6) (v := undef) rfl (by kernel_rfl) (by kernel_rfl) (by kernel_rfl) (fun _ _ _ h => h) (Or.inr ⟨by rfl, rfl⟩) (by assumption) ?_
          simp only [Act.put, List.getElem_toArray, List.getElem_cons_succ, List.getElem_cons_zero, List.setIfInBounds_toArray, List.set_cons_succ, List.set_cons_zero]
          refine wpAnyH_take (i := 7) (v := undef) rfl (by kernel_rfl) (by kernel_rfl) (by kernel_rfl) (fun _ _ _ h => h) (Or.inr ⟨by rfl, rfl⟩) (by assumption) ?_
          simp only [Act.put, List.getElem_toArray, List.getElem_cons_succ, List.getElem_cons_zero, List.setIfInBounds_toArray, List.set_cons_succ, List.set_cons_zero]
          refine wpAnyH_take (i := 8) (v := undef) rfl (by kernel_rfl) (by kernel_rfl) (by kernel_rfl) (fun _ _ _ h => h) (Or.inr ⟨by rfl, rfl⟩) (by assumption) ?_
          simp only [Act.put, List.getElem_toArray, List.getElem_cons_succ, List.getElem_cons_zero, List.setIfInBounds_toArray, List.set_cons_succ, List.set_cons_zero]
          refine wpAnyH_take (i := 9) (v := ?_) rfl (by kernel_rfl) (by kernel_rfl) (by kernel_rfl) (fun _ _ _ h => h) (Or.inl ⟨by rfl, ?_⟩) (by assumption) ?_
          rotate_left
          · (intro w' hSw; (try dsimp only at hSw); go_simp; (try (with_reducible rfl)))
          simp only [Act.put, List.getElem_toArray, List.getElem_cons_succ, List.getElem_cons_zero, List.setIfInBounds_toArray, List.set_cons_succ, List.set_cons_zero]
          refine wpAnyH_done (by kernel_rfl) ?_ _
          go_wp2_with fail
          go_roundg (gk - 1)
          case measure => go_light; have h1 := HIQ.out; have h2 := HIN.out; omega
          case rel => exact ⟨i + 1, by go_num, by have h1 := HIQ.out; have h2 := HIN.out; go_light; omega, by have h2 := HIN.out; go_light; omega, by first | exact KR.out.trans (by assumption) (fun _ _ h => h) | exact KR.out.trans (Keeps.drew (by assumption)) (fun _ _ h => h)⟩
      · obtain rfl : m = i := by omega
        have hI : ¬ (m : Int) < (m : Int) := by omega
        have hdI : decide ((m : Int) < (m : Int)) = false := decide_eq_false hI
        have KE := Lib.hid (K4.out.trans KR.out (fun _ _ h => h))
        obtain ⟨S, hS⟩ : ∃ S, S = ofL (textT ps) := ⟨_, rfl⟩
        have HS := Lib.hid hS
        have bs : (S.toList == S.toList) = true := by simp
        have TP : Hid (∀ w', Keeps (fun _ => False) wr w' → Calls Tryd.prog 22 #[.agg #[.slice A m c, .slice A' k c']] w' fun r w'' => r = .returned (.string S) ∧ Keeps (fun _ => False) wr w'') := Lib.hid (fun w' q => by
          rw [HS.out]
          exact (ptext_any qshow nd fs A A' m k c c' HM.out HK.out ps HRT.out.fns HRT.out.ok HRT.out.rep (by have := HTL.out; omega) HMB.out (by have := HLIM.out.2; omega) (fun p hp => by have := HP3.out p hp; omega) w' (HWr.out.keep q) (HTr.out.keep q)).mono fun r w'' ⟨h1, h2⟩ => ⟨h1, q.trans h2 (fun _ _ h => h)⟩)
        have TR2 : Hid (∀ w', Keeps (fun _ => False) wr w' → Calls Tryd.prog 23 #[.agg #[.slice A m c, .slice A' k c']] w' fun r w'' => r = .returned (.string S) ∧ Keeps (fun _ => False) wr w'') := Lib.hid (fun w' q => by
          rw [HS.out]
          exact (dtext_any qshow nd fs A A' m k c c' HM.out HK.out ps HRT.out.fns HRT.out.ok HRT.out.rep (by have := HTL.out; omega) (fun p hp => rblock_all qshow nd fs A A' m k c c' HM.out p.2 (HMB.out p hp)) (by have := HLIM.out.2; omega) (fun p hp => by have := HP3.out p hp; omega) w' (HWr.out.keep q) (HTr.out.keep q)).mono fun r w'' ⟨h1, h2⟩ => ⟨h1, q.trans h2 (fun _ _ h => h)⟩)
        have SK : Hid (∀ w', Keeps (fun _ => False) wr w' → (w'.cell? ⟨P1, 0, none⟩ = some (.slice A m c) ∧ w'.cell? ⟨P1, 1, none⟩ = some (.slice A' k c')) ∧ Keeps (fun _ => False) wr w') := Lib.hid (fun w' q => ⟨⟨(q.cell (cell_ltk x0) (fun h => h)).trans x0, (q.cell (cell_ltk x1) (fun h => h)).trans x1⟩, q⟩)
        clear hin hin1 hS
        go_upto_region 14 with fail
        go_region_held3 (fun w' => (w'.cell? ⟨P1, 0, none⟩ = some (.slice A m c) ∧ w'.cell? ⟨P1, 1, none⟩ = some (.slice A' k c')) ∧ Keeps (fun _ => False) wr w') (first | exact SK.out _ (Keeps.refl _ _) | exact SK.out _ (by assumption) | exact SK.out _ ((Keeps.refl _ _).drew) | exact SK.out _ (Keeps.drew (by assumption))) (first | (go_at_call 22; refine (TP.out _ (by first | assumption | exact (Keeps.refl _ _).drew | exact Keeps.drew (by assumption) | exact Keeps.refl _ _)).mono ?_; rintro r w8 ⟨rfl, k8⟩) | (go_at_call 23; refine (TR2.out _ (by first | assumption | exact (Keeps.refl _ _).drew | exact Keeps.drew (by assumption) | exact Keeps.refl _ _)).mono ?_; rintro r w8 ⟨rfl, k8⟩))
        all_goals go_wp2_with fail
        all_goals go_ret
        all_goals exact ⟨rfl, by first | exact KE.out.trans (by assumption) (fun _ _ h => h) | exact KE.out.trans (Keeps.drew (by assumption)) (fun _ _ h => h)⟩
  · have hne : ((erOf res : Int) != 0) = true := by simp; omega
    generalize (ndsOf res).length = nm at RC
    generalize (fnsOf res).length = nk at RC
    generalize (atOf res : Int) = ax at RC
    generalize (erOf res : Int) = ex at RC hne
    clear hres he0
    go_wp2_with fail
    refine RC.out.mono ?_
    rintro e w3 ⟨A, c, A', c', rfl, hTr, k3⟩
    have K3 := Lib.hid (K1.out.trans k3 (fun _ _ h => h))
    clear RC K1 k3 hTr
    go_upto_region 3 with fail
    have ka := Keeps.one w3 (.cells #[.slice A nm c, .slice A' nk c'] 27)
    obtain ⟨w4, hw⟩ : ∃ w4, w4 = w3.alloc (.cells #[.slice A nm c, .slice A' nk c'] 27) := ⟨_, rfl⟩
    rw [← hw] at ka ⊢
    have K4 := Lib.hid (K3.out.trans ka (fun _ _ h => h))
    generalize w3.heap.size = X4
    clear ka hw K3
    go_wp2_with fail
    go_ret
    exact ⟨rfl, K4.out⟩
end Go.Proofs.YtgelggdgbmldiaaDoor
