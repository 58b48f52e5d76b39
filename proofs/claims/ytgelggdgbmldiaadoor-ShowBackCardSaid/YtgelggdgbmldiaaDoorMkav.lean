/-
  Layer 3: the program's statements, over a builder. Written by an AI agent.
  Layer 3: what each node is shown as (data), and the document's example. Written by an AI agent.
  Layer 2: what the document's reader does, as data, step by step. Written by an AI agent.
-/
import Derived.Test.YtgelggdgbmldiaaDoorMkau
namespace Go.Proofs.YtgelggdgbmldiaaDoor
open Go Go.RowKit Go.Shelf
set_option linter.unusedVariables false
set_option linter.unusedSimpArgs false
theorem laysStr : Lays.n169 Tryd.prog laysJoin_ren := { laysJoin with }
theorem str_any (B b : Nat) (t : List UInt8) (w : World) (h : BW B b t w) : Calls Tryd.prog 39 #[.pointer (some ⟨b, 0, none⟩)] w fun e w' => e = .returned (.string (ofL t)) ∧ Below B w w' :=
  (Any.Builder_String_any_k laysStr extraJoin B b t w h.2 h.1).mono fun e w' ⟨he, _, hb, _⟩ => ⟨he, hb⟩
set_option maxRecDepth 100000 in
set_option maxHeartbeats 32000000 in
theorem ptext_any (Q : List UInt8 → Prop) (nd : List Nd) (fs : List Fnc) (A A' : Option Addr) (m k c c' : Nat) (hm : m = nd.length) (hk : k = fs.length) (ps : List (Fnc × Bl)) (hfs : fs = ps.map Prod.fst) (hok : ∀ p ∈ ps, FnOK Q p.1) (hrep : ∀ p ∈ ps, ∃ xs, At nd p.1.body 18 0 [] xs ∧ RepB Q nd p.2 xs) (hB : (textT ps).length ≤ 9000000) (hmass : ∀ p ∈ ps, massB p.2 ≤ 800000) (hk6 : k ≤ 1000) (hp3 : ∀ p ∈ ps, p.1.ps.length ≤ 1000) (w : World) (hw : ShW w) (hT : TreeR 0 w A A' nd fs) :
    Calls Tryd.prog 22 #[.agg #[.slice A m c, .slice A' k c']] w fun r w' => r = .returned (.string (ofL (textT ps))) ∧ Keeps (fun _ => False) w w' := by
  have HT := Lib.hid hT
  have HMM := Lib.hid hm
  have HP3 := Lib.hid hp3
  have HW := Lib.hid hw
  have HK := Lib.hid hk
  have HFS := Lib.hid hfs
  have HOK := Lib.hid hok
  have HREP := Lib.hid hrep
  have HBB := Lib.hid hB
  have HMS := Lib.hid hmass
  clear hT hw hk hfs hok hrep hB hm hp3 hmass
  go_enter Tryd.func22, Tryd.ntmps22
  go_upto_region 1 with fail
  obtain ⟨P1, hP1⟩ : ∃ X, X = w.heap.size := ⟨_, rfl⟩
  obtain ⟨w1, hw1⟩ : ∃ w1, w1 = w.alloc (.cells #[.slice A m c, .slice A' k c'] 27) := ⟨_, rfl⟩
  have ka := Keeps.one w (.cells #[.slice A m c, .slice A' k c'] 27)
  have HX1 : Hid (LocH w1 P1 [.slice A m c, .slice A' k c'] 27) := Lib.hid (by rw [hw1, hP1]; exact LocH.new w [.slice A m c, .slice A' k c'] 27)
  have HP1s : Hid (w1.heap.size = P1 + 1) := Lib.hid (by rw [hw1, hP1, World.size_alloc])
  rw [← hP1]
  rw [← hw1] at ka ⊢
  have K1 := Lib.hid ka
  have HT1 := Lib.hid (HT.out.keep ka)
  have HW1 := Lib.hid (HW.out.keep ka)
  clear ka hw1 hP1 HT HW
  go_upto_region 2 with fail
  obtain ⟨b, hb⟩ : ∃ X, X = w1.heap.size := ⟨_, rfl⟩
  obtain ⟨w2, hw2⟩ : ∃ w2, w2 = w1.alloc (.cells #[.pointer none, .slice none 0 0] 73) := ⟨_, rfl⟩
  have kb := Keeps.one w1 (.cells #[.pointer none, .slice none 0 0] 73)
  have HB2 : Hid (BW w1.heap.size b [] w2) := Lib.hid (by
    rw [hw2, hb]
    exact ⟨by rw [World.size_alloc]; omega, Lib.IsBuilderF.of (Lib.fresh_isBuilder 73 5 w1)⟩)
  have HNE1 : Hid (P1 ≠ b) := Lib.hid (by have := HP1s.out; omega)
  (try rw [← hb])
  rw [← hw2] at kb ⊢
  have HX2 := Lib.hid (HX1.out.keep (FrB.ofKeeps (B := w1.heap.size) (b := b) kb (Nat.le_refl _)) HNE1.out (by decide))
  have D2 : Hid (Below w1.heap.size w1 w2) := Lib.hid (FrB.ofKeeps (B := w1.heap.size) (b := b) kb (Nat.le_refl _)).below
  clear kb hw2 hb HX1 HP1s
  have PB : Hid (∀ x, massB x ≤ 800000 → PBC Q nd A A' m k c c' w1 b x) := Lib.hid fun x h => pblock_all Q nd fs A A' m k c c' HMM.out w1 HW1.out HT1.out b x h
  have x0 := HX2.out.cell 0 _ rfl
  have x1 := HX2.out.cell 1 _ rfl
  go_upto_region 3 with fail
  clear x0 x1
  go_loopg [5, 6, 7, 11] (k + 1) (fun q s5 s6 s7 s11 wr => ∃ i : Nat, s11 = .int .i64 i ∧ i + q = k + 1 ∧ i ≤ k ∧ BW w1.heap.size b (textT (ps.take i)) wr ∧ FrB w1.heap.size b w2 wr)
  case atStart => exact ⟨0, rfl, by omega, by omega, HB2.out, FrB.refl _ _ _⟩
  case round =>
    obtain ⟨i, rfl, hiq, hin1, hb, hf⟩ := hrel
    have HIQ := Lib.hid hiq
    have HBr := Lib.hid hb
    have Fr := Lib.hid hf
    have Dr := Lib.hid (below_trans D2.out hf.below)
    clear hiq hb hf
    obtain ⟨wo, hwo⟩ : ∃ x, x = wr := ⟨_, rfl⟩
    subst hwo
    obtain ⟨g0, hg0⟩ : ∃ g0, g0 = gk := ⟨_, rfl⟩
    subst hg0
    by_cases hin : i < k
    · have hI : (i : Int) < (k : Int) := by omega
      have hdI : decide ((i : Int) < (k : Int)) = true := decide_eq_true hI
      have hi0 : (0 : Int) ≤ (i : Int) := by omega
      have wi : IntKind.i64.wrap ((i : Int) + 1) = (i : Int) + 1 := IntWalk.i64_in _ (by omega)
      have HIN := Lib.hid hin
      have hpl : i < ps.length := by have h1 := HK.out; have h2 := HFS.out; rw [h2, List.length_map] at h1; omega
      have hfl : i < fs.length := by rw [← HK.out]; exact hin
      have kr := FrB.back Dr.out
      obtain ⟨bf, of, hA, hcf⟩ := (HT1.out.keep kr).fnAt (by omega)
      obtain ⟨ap, cp, d0, d1, d2, d3, d4, dr⟩ := hcf i hfl
      obtain ⟨bf0, of0, hA0, hcf0⟩ := HT1.out.fnAt (by omega)
      obtain ⟨ap0, cp0, -, -, e2, -, -, er⟩ := hcf0 i hfl
      have hbb := hA.symm.trans hA0
      injection hbb with hbb
      injection hbb with hbb1 hbb2
      subst hbb1; subst hbb2
      have e3 := (kr.cell (cell_ltk e2) (fun h => h)).trans e2
      have e4 := d2.symm.trans e3
      injection e4 with e4
      injection e4 with e5 e5b e6
      subst e5
      obtain ⟨p, hp⟩ : ∃ p, p = ps[i] := ⟨_, rfl⟩
      have hpf : fs[i] = p.1 := by rw [hp]; simp only [HFS.out, List.getElem_map]
      have hpm : p ∈ ps := by rw [hp]; exact List.getElem_mem _
      rw [hpf] at d0 d1 d2 d3 d4 er
      have HN := Lib.hid (textT_next hpl)
      rw [← hp] at HN
      have hle := textT_le ps (i + 1)
      rw [HN.out, List.length_append] at hle
      have hle2 := Nat.le_trans hle HBB.out
      clear hle hcf hcf0 hA0 e2 e3 e5b e6 dr
      obtain ⟨f, bb⟩ := p
      have HP := Lib.hid hpm
      have hOK := HOK.out _ hpm
      have htf : (textF (f, bb)).length = 3 + f.s.length + 1 + (joinX (f.ps.map paramL)).length + 1 + (wordL f.ret).length + (showK bb).length := by
        unfold textF
        simp only [List.length_append]
        rfl
      rw [htf] at hle2
      have HLE := Lib.hid hle2
      obtain ⟨S1, hS1⟩ : ∃ S, S = ofL f.s := ⟨_, rfl⟩
      have z1 : S1.size = f.s.length := by rw [hS1]; exact ofL_size _
      have HS1 := Lib.hid hS1
      have HZ1 := Lib.hid z1
      replace d0 : wo.cell? ⟨bf, of + i * 5, none⟩ = some (.string (ofL f.s)) := d0
      rw [← hS1] at d0
      obtain ⟨np, hnp⟩ : ∃ n, n = f.ps.length := ⟨_, rfl⟩
      replace d2 : wo.cell? ⟨bf, of + i * 5 + 2, none⟩ = some (.slice ap f.ps.length cp) := d2
      rw [← hnp] at d2
      have HNP := Lib.hid hnp
      have HDR := Lib.hid er
      have HRT := Lib.hid hOK.2.1
      have HPO := Lib.hid hOK.2.2
      replace hA : A' = some ⟨bf, of, none⟩ := hA
      subst hA
      obtain ⟨fln, hfln⟩ : ∃ r, r = f.ln := ⟨_, rfl⟩
      obtain ⟨ret, hret⟩ : ∃ r, r = f.ret := ⟨_, rfl⟩
      obtain ⟨body, hbody⟩ : ∃ r, r = f.body := ⟨_, rfl⟩
      replace d1 : wo.cell? ⟨bf, of + i * 5 + 1, none⟩ = some (.int .i64 f.ln) := d1
      replace d3 : wo.cell? ⟨bf, of + i * 5 + 3, none⟩ = some (.int .i64 f.ret) := d3
      replace d4 : wo.cell? ⟨bf, of + i * 5 + 4, none⟩ = some (.int .i64 f.body) := d4
      rw [← hfln] at d1
      rw [← hret] at d3
      rw [← hbody] at d4
      have HRET := Lib.hid hret
      have HBODY := Lib.hid hbody
      clear hp hpf hpm hOK htf hle2 hS1 z1 hnp er hfln hret hbody hpl hfl hin kr
      go_upto_region 5 with fail
      obtain ⟨PF, hPF⟩ : ∃ X, X = wo.heap.size := ⟨_, rfl⟩
      obtain ⟨w3, hw3⟩ : ∃ w3, w3 = wo.alloc (.cells #[.string S1, .int .i64 fln, .slice ap np cp, .int .i64 ret, .int .i64 body] 36) := ⟨_, rfl⟩
      have ka := Keeps.one wo (.cells #[.string S1, .int .i64 fln, .slice ap np cp, .int .i64 ret, .int .i64 body] 36)
      have HF3 : Hid (LocH w3 PF [.string S1, .int .i64 fln, .slice ap np cp, .int .i64 ret, .int .i64 body] 36) := Lib.hid (by rw [hw3, hPF]; exact LocH.new wo [.string S1, .int .i64 fln, .slice ap np cp, .int .i64 ret, .int .i64 body] 36)
      have HNEF : Hid (PF ≠ b) := Lib.hid (by have := HBr.out.lt; omega)
      rw [← hPF]
      rw [← hw3] at ka ⊢
      have F3 : Hid (FrB w1.heap.size b wo w3) := Lib.hid (FrB.ofKeeps ka HBr.out.1)
      have HB3 := Lib.hid (HBr.out.keep ka)
      clear ka hw3 hPF d0 d1 d2 d3 d4
      have f0 := HF3.out.cell 0 _ rfl
      have q1 : ¬ 9223372036854775807 < 3 + S1.size := by have h1 := HLE.out; have h2 := HZ1.out; omega
      have q2 : ¬ 9223372036854775807 < 3 + S1.size + 1 := by have h1 := HLE.out; have h2 := HZ1.out; omega
      have e1 : Hid ((({ data := #[102, 110, 32] } : ByteArray) ++ S1 ++ ({ data := #[40] } : ByteArray)).data.toList = [102, 110, 32] ++ f.s ++ [40]) := Lib.hid (by rw [bap_list, bap_list, HS1.out, ofL_list])
      have WA := Lib.hid (ws_any w1.heap.size b (textT (ps.take i)) (({ data := #[102, 110, 32] } : ByteArray) ++ S1 ++ ({ data := #[40] } : ByteArray)) w3 HB3.out (by rw [← len_size, e1.out]; have h1 := HLE.out; simp only [List.length_append, List.length_cons, List.length_nil]; omega))
      go_wp2_with fail
      refine WA.out.mono ?_
      rintro r w4 ⟨rfl, hb4, f4⟩
      rw [e1.out] at hb4
      have HB4 := Lib.hid hb4
      have F4 := Lib.hid (F3.out.trans f4)
      have HF4 := Lib.hid (HF3.out.keep f4 HNEF.out (by decide))
      clear hb4 f4 WA e1 q1 q2 f0 HF3 HB3 F3
      have f2 := HF4.out.cell 2 _ rfl
      go_upto_region 7 with fail
      clear f2
      go_loopg [6, 7, 23] (np + 1) (fun q s6 s7 s23 wr => ∃ j : Nat, s23 = .int .i64 j ∧ j + q = np + 1 ∧ j ≤ np ∧ BW w1.heap.size b (textT (ps.take i) ++ ([102, 110, 32] ++ f.s ++ [40]) ++ joinX ((f.ps.take j).map paramL)) wr ∧ FrB w1.heap.size b w4 wr)
      case atStart => exact ⟨0, rfl, by omega, by omega, by have h := HB4.out; simpa [joinX] using h, FrB.refl _ _ _⟩
      case round =>
        obtain ⟨j, rfl, hjq, hjn1, hb, hf⟩ := hrel
        have HJQ := Lib.hid hjq
        have HBj := Lib.hid hb
        have Fj := Lib.hid hf
        have Dj := Lib.hid (below_trans (below_trans Dr.out F4.out.below) hf.below)
        clear hjq hb hf
        by_cases hjn : j < np
        · have hJ : (j : Int) < (np : Int) := by omega
          have hdJ : decide ((j : Int) < (np : Int)) = true := decide_eq_true hJ
          have hj0 : (0 : Int) ≤ (j : Int) := by omega
          have HJN := Lib.hid hjn
          have hjl : j < f.ps.length := by rw [← HNP.out]; exact hjn
          have wj : IntKind.i64.wrap ((j : Int) + 1) = (j : Int) + 1 := IntWalk.i64_in _ (by
            have h1 : f.ps.length ≤ 1000 := HP3.out _ HP.out
            omega)
          obtain ⟨bp, op, hap, hcp⟩ := (HDR.out.keep (FrB.back Dj.out) (fun _ _ _ _ h => h)) (by rw [flatP_length]; omega)
          have p0 := hcp (j * 2 + 0) _ (flatP_at f.ps j 0 hjl (by omega))
          have p1 := hcp (j * 2 + 1) _ (flatP_at f.ps j 1 hjl (by omega))
          have hnx := params_next hjl
          have hpre := joinX_pre (f.ps.map paramL) (j + 1)
          rw [← List.map_take] at hpre
          obtain ⟨pr, hpr⟩ : ∃ p, p = f.ps[j] := ⟨_, rfl⟩
          have hpo := HPO.out pr (by rw [hpr]; exact List.getElem_mem _)
          rw [← hpr] at p0 p1 hnx
          obtain ⟨pn, pt⟩ := pr
          obtain ⟨S4, hS4⟩ : ∃ S, S = ofL pn := ⟨_, rfl⟩
          have HS4 := Lib.hid hS4
          replace p0 : wr.cell? ⟨bp, op + j * 2, none⟩ = some (.string (ofL pn)) := p0
          replace p1 : wr.cell? ⟨bp, op + j * 2 + 1, none⟩ = some (.int .i64 pt) := p1
          rw [← hS4] at p0
          subst hap
          have HPT := Lib.hid hpo.2
          have HNX := Lib.hid hnx
          have hlx : (joinX ((f.ps.take (j + 1)).map paramL)).length ≤ 9000000 := by have := HLE.out; omega
          have hpl2 : (paramL (pn, pt)).length ≤ 9000000 := by rw [hnx, List.length_append] at hlx; omega
          have HZ4 : Hid (S4.size ≤ 9000000) := Lib.hid (by
            rw [hS4, ofL_size]
            have e : (paramL (pn, pt)).length = pn.length + 1 + (wordL pt).length := by unfold paramL; simp only [List.length_append]; rfl
            omega)
          have HFIT0 : Hid ((textT (ps.take i) ++ ([102, 110, 32] ++ f.s ++ [40]) ++ joinX ((f.ps.take (j + 1)).map paramL)).length ≤ 100000000) := Lib.hid (by
            have h1 := HLE.out
            simp only [List.length_append, List.length_cons, List.length_nil]
            omega)
          clear hnx hpre hpr hpo hcp hjl hjn hS4 hlx hpl2
          go_upto_region 9 with fail
          obtain ⟨PP, hPP⟩ : ∃ X, X = wr.heap.size := ⟨_, rfl⟩
          obtain ⟨w5, hw5⟩ : ∃ w5, w5 = wr.alloc (.cells #[.string S4, .int .i64 pt] 59) := ⟨_, rfl⟩
          have ka := Keeps.one wr (.cells #[.string S4, .int .i64 pt] 59)
          have HPP5 : Hid (LocH w5 PP [.string S4, .int .i64 pt] 59) := Lib.hid (by rw [hw5, hPP]; exact LocH.new wr [.string S4, .int .i64 pt] 59)
          have HNEP : Hid (PP ≠ b) := Lib.hid (by have := HBj.out.lt; omega)
          rw [← hPP]
          rw [← hw5] at ka ⊢
          have F5 : Hid (FrB w1.heap.size b w4 w5) := Lib.hid (Fj.out.trans (FrB.ofKeeps ka HBj.out.1))
          have HB5 := Lib.hid (HBj.out.keep ka)
          clear ka hw5 hPP p0 p1
          have hjz : j = 0 ∨ 0 < j := Nat.eq_zero_or_pos j
          rcases hjz with h00 | h0p
          · have hJ0 : ¬ (0 : Int) < (j : Int) := by omega
            have hd0 : decide ((0 : Int) < (j : Int)) = false := decide_eq_false hJ0
            have HFIT : Hid ((textT (ps.take i) ++ ([102, 110, 32] ++ f.s ++ [40]) ++ joinX ((f.ps.take j).map paramL)).length + (paramL (pn, pt)).length ≤ 100000000) := Lib.hid (by
              have h1 := HFIT0.out
              rw [HNX.out, if_pos h00, List.nil_append, List.length_append] at h1
              have ht : joinX ((f.ps.take j).map paramL) = [] := by rw [h00]; rfl
              rw [List.length_append, ht, List.length_nil]
              omega)
            replace HNX : Hid (joinX ((f.ps.take (j + 1)).map paramL) = joinX ((f.ps.take j).map paramL) ++ paramL (pn, pt)) := Lib.hid (by
              rw [HNX.out, if_pos h00]
              have ht : joinX ((f.ps.take j).map paramL) = [] := by rw [h00]; rfl
              rw [ht])
            obtain ⟨w6, hw6⟩ : ∃ w6, w6 = w5 := ⟨_, rfl⟩
            subst hw6
            have HB6 := HB5
            have F6 := F5
            have HPP6 := HPP5
            clear h00
            go_upto_region 9 with fail
            obtain ⟨S5, hS5⟩ : ∃ S, S = ofL (wordL pt) := ⟨_, rfl⟩
            have HS5 := Lib.hid hS5
            have z5 : S5.size = (wordL pt).length := by rw [hS5, ofL_size]
            have KC : Hid (∀ w', FrB w1.heap.size b w6 w' → BW w1.heap.size b (textT (ps.take i) ++ ([102, 110, 32] ++ f.s ++ [40]) ++ joinX ((f.ps.take j).map paramL)) w' → Calls Tryd.prog 37 #[.int .i64 pt] w' fun r w'' => r = .returned (.string S5) ∧ BW w1.heap.size b (textT (ps.take i) ++ ([102, 110, 32] ++ f.s ++ [40]) ++ joinX ((f.ps.take j).map paramL)) w'' ∧ FrB w1.heap.size b w6 w'') := Lib.hid (fun w' q hb => by
              rw [HS5.out]
              exact (pkind_any pt HPT.out.1 HPT.out.2 w').mono fun r w'' ⟨h1, h2⟩ => ⟨h1, hb.keep h2, q.trans (FrB.ofKeeps h2 hb.1)⟩)
            have WH : Hid (∀ w', FrB w1.heap.size b w6 w' → BW w1.heap.size b (textT (ps.take i) ++ ([102, 110, 32] ++ f.s ++ [40]) ++ joinX ((f.ps.take j).map paramL)) w' → Calls Tryd.prog 36 #[.pointer (some ⟨b, 0, none⟩), .string (S4 ++ ({ data := #[32] } : ByteArray) ++ S5)] w' fun r w'' => r = .returned (.tuple #[.int .i64 ((S4 ++ ({ data := #[32] } : ByteArray) ++ S5).size : Nat), .nilIface]) ∧ BW w1.heap.size b (textT (ps.take i) ++ ([102, 110, 32] ++ f.s ++ [40]) ++ joinX ((f.ps.take (j + 1)).map paramL)) w'' ∧ FrB w1.heap.size b w6 w'') := Lib.hid (fun w' q hb => by
              have e1 : (S4 ++ ({ data := #[32] } : ByteArray) ++ S5).data.toList = paramL (pn, pt) := by rw [bap_list, bap_list, HS4.out, HS5.out, ofL_list, ofL_list]; rfl
              refine (ws_any w1.heap.size b _ (S4 ++ ({ data := #[32] } : ByteArray) ++ S5) w' hb (by rw [← len_size, e1]; exact HFIT.out)).mono fun r w'' ⟨h1, h2, h3⟩ => ⟨h1, ?_, q.trans h3⟩
              rw [e1] at h2
              have e2 : textT (ps.take i) ++ ([102, 110, 32] ++ f.s ++ [40]) ++ joinX ((f.ps.take (j + 1)).map paramL) = (textT (ps.take i) ++ ([102, 110, 32] ++ f.s ++ [40]) ++ joinX ((f.ps.take j).map paramL)) ++ paramL (pn, pt) := by rw [HNX.out]; simp [List.append_assoc]
              rw [e2]
              exact h2)
            have q1 : ¬ 9223372036854775807 < S4.size + 1 := by have := HZ4.out; omega
            have q2 : ¬ 9223372036854775807 < S4.size + 1 + S5.size := by have := HZ4.out; have := wordL_len pt; omega
            have SK : Hid (∀ w', FrB w1.heap.size b w6 w' → (w'.cell? ⟨PP, 0, none⟩ = some (.string S4) ∧ w'.cell? ⟨PP, 1, none⟩ = some (.int .i64 pt)) ∧ FrB w1.heap.size b w6 w') := Lib.hid (fun w' q => ⟨⟨(HPP6.out.keep q HNEP.out (by decide)).cell 0 _ rfl, (HPP6.out.keep q HNEP.out (by decide)).cell 1 _ rfl⟩, q⟩)
            have hb6 := HB6.out
            have f6 : FrB w1.heap.size b w6 w6 := FrB.refl _ _ _
            clear hS5 z5
            go_upto_region 11 with fail
            go_region_held3 (fun w' => (w'.cell? ⟨PP, 0, none⟩ = some (.string S4) ∧ w'.cell? ⟨PP, 1, none⟩ = some (.int .i64 pt)) ∧ FrB w1.heap.size b w6 w') (first | exact SK.out _ (by assumption) | exact SK.out _ (FrB.drew (by assumption))) (first | (go_at_call 37; refine (KC.out _ (by first | assumption | exact FrB.drew (by assumption)) (by first | assumption | exact BW.drew (by assumption))).mono ?_; rintro r w8 ⟨rfl, hb8, f8⟩) | (go_at_call 36; refine (WH.out _ (by first | assumption | exact FrB.drew (by assumption)) (by first | assumption | exact BW.drew (by assumption))).mono ?_; rintro r w9 ⟨rfl, hb9, f9⟩))
            go_wp2_with fail
            go_roundg (gk - 1)
            case measure => go_light; have h1 := HJQ.out; have h2 := HJN.out; omega
            case rel => exact ⟨j + 1, by go_num, by have h1 := HJQ.out; have h2 := HJN.out; go_light; omega, by have h2 := HJN.out; go_light; omega, hb9, F6.out.trans f9⟩
          · have hJ0 : (0 : Int) < (j : Int) := by omega
            have hd0 : decide ((0 : Int) < (j : Int)) = true := decide_eq_true hJ0
            replace HNX : Hid (joinX ((f.ps.take (j + 1)).map paramL) = (joinX ((f.ps.take j).map paramL) ++ [44]) ++ paramL (pn, pt)) := Lib.hid (by
              rw [HNX.out, if_neg (by omega)])
            have HFIT : Hid ((textT (ps.take i) ++ ([102, 110, 32] ++ f.s ++ [40]) ++ joinX ((f.ps.take j).map paramL) ++ [44]).length + (paramL (pn, pt)).length ≤ 100000000) := Lib.hid (by
              have h1 := HFIT0.out
              rw [HNX.out] at h1
              simp only [List.length_append, List.length_cons, List.length_nil] at h1 ⊢
              omega)
            have WC := Lib.hid (ws_any w1.heap.size b _ { data := #[44] } w5 HB5.out (by
              have h1 := HFIT.out
              rw [List.length_append] at h1
              have e2 : ([44] : List UInt8).length = 1 := rfl
              show _ + 1 ≤ _
              omega))
            clear h0p
            go_wp2_with fail
            refine WC.out.mono ?_
            rintro r w6 ⟨rfl, hb6, f6⟩
            have hb6 : BW w1.heap.size b (textT (ps.take i) ++ ([102, 110, 32] ++ f.s ++ [40]) ++ joinX ((f.ps.take j).map paramL) ++ [44]) w6 := hb6
            have HB6 := Lib.hid hb6
            have F6 := Lib.hid (F5.out.trans f6)
            have HPP6 := Lib.hid (HPP5.out.keep f6 HNEP.out (by decide))
            clear hb6 f6 WC
            obtain ⟨S5, hS5⟩ : ∃ S, S = ofL (wordL pt) := ⟨_, rfl⟩
            have HS5 := Lib.hid hS5
            have z5 : S5.size = (wordL pt).length := by rw [hS5, ofL_size]
            have KC : Hid (∀ w', FrB w1.heap.size b w6 w' → BW w1.heap.size b (textT (ps.take i) ++ ([102, 110, 32] ++ f.s ++ [40]) ++ joinX ((f.ps.take j).map paramL) ++ [44]) w' → Calls Tryd.prog 37 #[.int .i64 pt] w' fun r w'' => r = .returned (.string S5) ∧ BW w1.heap.size b (textT (ps.take i) ++ ([102, 110, 32] ++ f.s ++ [40]) ++ joinX ((f.ps.take j).map paramL) ++ [44]) w'' ∧ FrB w1.heap.size b w6 w'') := Lib.hid (fun w' q hb => by
              rw [HS5.out]
              exact (pkind_any pt HPT.out.1 HPT.out.2 w').mono fun r w'' ⟨h1, h2⟩ => ⟨h1, hb.keep h2, q.trans (FrB.ofKeeps h2 hb.1)⟩)
            have WH : Hid (∀ w', FrB w1.heap.size b w6 w' → BW w1.heap.size b (textT (ps.take i) ++ ([102, 110, 32] ++ f.s ++ [40]) ++ joinX ((f.ps.take j).map paramL) ++ [44]) w' → Calls Tryd.prog 36 #[.pointer (some ⟨b, 0, none⟩), .string (S4 ++ ({ data := #[32] } : ByteArray) ++ S5)] w' fun r w'' => r = .returned (.tuple #[.int .i64 ((S4 ++ ({ data := #[32] } : ByteArray) ++ S5).size : Nat), .nilIface]) ∧ BW w1.heap.size b (textT (ps.take i) ++ ([102, 110, 32] ++ f.s ++ [40]) ++ joinX ((f.ps.take (j + 1)).map paramL)) w'' ∧ FrB w1.heap.size b w6 w'') := Lib.hid (fun w' q hb => by
              have e1 : (S4 ++ ({ data := #[32] } : ByteArray) ++ S5).data.toList = paramL (pn, pt) := by rw [bap_list, bap_list, HS4.out, HS5.out, ofL_list, ofL_list]; rfl
              refine (ws_any w1.heap.size b _ (S4 ++ ({ data := #[32] } : ByteArray) ++ S5) w' hb (by rw [← len_size, e1]; exact HFIT.out)).mono fun r w'' ⟨h1, h2, h3⟩ => ⟨h1, ?_, q.trans h3⟩
              rw [e1] at h2
              have e2 : textT (ps.take i) ++ ([102, 110, 32] ++ f.s ++ [40]) ++ joinX ((f.ps.take (j + 1)).map paramL) = (textT (ps.take i) ++ ([102, 110, 32] ++ f.s ++ [40]) ++ joinX ((f.ps.take j).map paramL) ++ [44]) ++ paramL (pn, pt) := by rw [HNX.out]; simp [List.append_assoc]
              rw [e2]
              exact h2)
            have q1 : ¬ 9223372036854775807 < S4.size + 1 := by have := HZ4.out; omega
            have q2 : ¬ 9223372036854775807 < S4.size + 1 + S5.size := by have := HZ4.out; have := wordL_len pt; omega
            have SK : Hid (∀ w', FrB w1.heap.size b w6 w' → (w'.cell? ⟨PP, 0, none⟩ = some (.string S4) ∧ w'.cell? ⟨PP, 1, none⟩ = some (.int .i64 pt)) ∧ FrB w1.heap.size b w6 w') := Lib.hid (fun w' q => ⟨⟨(HPP6.out.keep q HNEP.out (by decide)).cell 0 _ rfl, (HPP6.out.keep q HNEP.out (by decide)).cell 1 _ rfl⟩, q⟩)
            have hb6 := HB6.out
            have f6 : FrB w1.heap.size b w6 w6 := FrB.refl _ _ _
            clear hS5 z5
            go_upto_region 11 with fail
            go_region_held3 (fun w' => (w'.cell? ⟨PP, 0, none⟩ = some (.string S4) ∧ w'.cell? ⟨PP, 1, none⟩ = some (.int .i64 pt)) ∧ FrB w1.heap.size b w6 w') (first | exact SK.out _ (by assumption) | exact SK.out _ (FrB.drew (by assumption))) (first | (go_at_call 37; refine (KC.out _ (by first | assumption | exact FrB.drew (by assumption)) (by first | assumption | exact BW.drew (by assumption))).mono ?_; rintro r w8 ⟨rfl, hb8, f8⟩) | (go_at_call 36; refine (WH.out _ (by first | assumption | exact FrB.drew (by assumption)) (by first | assumption | exact BW.drew (by assumption))).mono ?_; rintro r w9 ⟨rfl, hb9, f9⟩))
            go_wp2_with fail
            go_roundg (gk - 1)
            case measure => go_light; have h1 := HJQ.out; have h2 := HJN.out; omega
            case rel => exact ⟨j + 1, by go_num, by have h1 := HJQ.out; have h2 := HJN.out; go_light; omega, by have h2 := HJN.out; go_light; omega, hb9, F6.out.trans f9⟩
        · obtain rfl : np = j := by omega
          have hJ : ¬ (np : Int) < (np : Int) := by omega
          have hdJ : decide ((np : Int) < (np : Int)) = false := decide_eq_false hJ
          have htake : f.ps.take np = f.ps := by rw [HNP.out]; exact List.take_length
          have HTK := Lib.hid htake
          have HFj := Lib.hid (HF4.out.keep Fj.out HNEF.out (by decide))
          have f3 := HFj.out.cell 3 _ rfl
          obtain ⟨SR, hSR⟩ : ∃ S, S = ofL (wordL ret) := ⟨_, rfl⟩
          have HSR := Lib.hid hSR
          have zR : SR.size ≤ 4 := by rw [hSR, ofL_size]; exact wordL_len _
          have HZR := Lib.hid zR
          have KC := Lib.hid (pkind_any ret (by rw [HRET.out]; exact HRT.out.1) (by rw [HRET.out]; exact HRT.out.2) wr)
          rw [← hSR] at KC
          have q1 : ¬ 9223372036854775807 < 1 + SR.size := by omega
          clear hjn hjn1 htake hSR zR
          go_wp2_with fail
          refine KC.out.mono ?_
          rintro r w5 ⟨rfl, k5⟩
          have F5 : Hid (FrB w1.heap.size b w4 w5) := Lib.hid (Fj.out.trans (FrB.ofKeeps k5 HBj.out.1))
          have HB5 := Lib.hid (HBj.out.keep k5)
          clear k5 KC f3
          have e1 : Hid ((({ data := #[41] } : ByteArray) ++ SR).data.toList = [41] ++ wordL f.ret) := Lib.hid (by rw [bap_list, HSR.out, ofL_list, HRET.out])
          have WD := Lib.hid (ws_any w1.heap.size b _ (({ data := #[41] } : ByteArray) ++ SR) w5 HB5.out (by
            rw [← len_size, e1.out, HTK.out]
            have h1 := HLE.out
            simp only [List.length_append, List.length_cons, List.length_nil]
            omega))
          go_wp2_with fail
          refine WD.out.mono ?_
          rintro r w6 ⟨rfl, hb6, f6⟩
          rw [e1.out, HTK.out] at hb6
          have HB6 := Lib.hid hb6
          have F6 := Lib.hid (F5.out.trans f6)
          have Fo6 := Lib.hid (F4.out.trans F6.out)
          have D6 := Lib.hid (below_trans Dr.out Fo6.out.below)
          have x0 := (HX2.out.keep (Fr.out.trans Fo6.out) HNE1.out (by decide)).cell 0 _ rfl
          have x1 := (HX2.out.keep (Fr.out.trans Fo6.out) HNE1.out (by decide)).cell 1 _ rfl
          have f4 := (HF4.out.keep F6.out HNEF.out (by decide)).cell 4 _ rfl
          have BC := Lib.hid (PB.out bb (HMS.out _ HP.out) body _ w6 HB6.out D6.out (by rw [HBODY.out]; exact HREP.out _ HP.out) (by
            have h1 := HLE.out
            simp only [List.length_append, List.length_cons, List.length_nil]
            omega))
          clear hb6 f6 WD e1 q1
          go_wp2_with fail
          refine BC.out.mono ?_
          rintro r w7 ⟨rfl, hb7, f7⟩
          have HB7 : Hid (BW w1.heap.size b (textT (ps.take (i + 1))) w7) := Lib.hid (by
            have e : textT (ps.take (i + 1)) = textT (ps.take i) ++ ([102, 110, 32] ++ f.s ++ [40]) ++ joinX (f.ps.map paramL) ++ ([41] ++ wordL f.ret) ++ showK bb := by
              rw [HN.out]
              unfold textF
              simp only [List.append_assoc]
            rw [e]
            exact hb7)
          have F7 := Lib.hid (Fr.out.trans (Fo6.out.trans f7))
          clear hb7 f7 BC x0 x1 f4
          go_wp2_with fail
          go_roundg (g0 - 1)
          case measure => go_light; have h1 := HIQ.out; have h2 := HIN.out; omega
          case rel => exact ⟨i + 1, by go_num, by have h1 := HIQ.out; have h2 := HIN.out; go_light; omega, by have h2 := HIN.out; go_light; omega, HB7.out, F7.out⟩
    · obtain rfl : k = i := by omega
      have hI : ¬ (k : Int) < (k : Int) := by omega
      have hdI : decide ((k : Int) < (k : Int)) = false := decide_eq_false hI
      have htk : ps.take k = ps := by
        have h1 := HK.out
        rw [HFS.out, List.length_map] at h1
        rw [h1]
        exact List.take_length
      have SC := Lib.hid (str_any w1.heap.size b (textT (ps.take k)) wo HBr.out)
      rw [htk] at SC
      clear hin hin1 htk
      go_wp2_with fail
      refine SC.out.mono ?_
      rintro r w4 ⟨rfl, d4⟩
      have D4 := Lib.hid (below_trans Dr.out d4)
      clear d4 SC
      go_wp2_with fail
      go_ret
      exact ⟨rfl, K1.out.trans (FrB.back D4.out) (fun _ _ h => h)⟩
end Go.Proofs.YtgelggdgbmldiaaDoor

namespace Go.Proofs.YtgelggdgbmldiaaDoor
open Go Go.RowKit Go.Shelf
set_option linter.unusedVariables false
set_option linter.unusedSimpArgs false
/-- The whole text is not too long. -/
theorem textF_len {Q : List UInt8 → Prop} {nd : List Nd} (hQ : ∀ s, Q s → s.length ≤ 1000) (p : Fnc × Bl) (hp : FnOK Q p.1) (h3 : p.1.ps.length ≤ 3) (xs : List Int) (hr : RepB Q nd p.2 xs) : (textF p).length ≤ massB p.2 + 5000 := by
  obtain ⟨f, b⟩ := p
  have h1 := showB_len b xs hr
  have h2 := hQ f.s hp.1
  have h4 := wordL_len f.ret
  have hpar : ∀ l : List (List UInt8 × Int), (∀ p ∈ l, (p.1).length ≤ 1000) → (joinX (l.map paramL)).length ≤ l.length * 1006 := by
    intro l
    induction l with
    | nil => intro _; exact Nat.zero_le _
    | cons a l ih =>
      intro h
      have h5 := h a (by simp)
      have h6 := wordL_len a.2
      have h7 : (paramL a).length ≤ 1005 := by unfold paramL; simp only [List.length_append, List.length_cons, List.length_nil]; omega
      have h8 := ih (fun p hp => h p (by simp [hp]))
      cases l with
      | nil => show (paramL a).length ≤ 1 * 1006; omega
      | cons c l =>
        show (paramL a ++ 44 :: joinX ((c :: l).map paramL)).length ≤ (l.length + 1 + 1) * 1006
        have h9 : (c :: l).length = l.length + 1 := rfl
        rw [h9] at h8
        rw [List.length_append, List.length_cons]
        omega
  have h5 := hpar f.ps (fun p hp2 => hQ p.1 (hp.2.2 p hp2).1)
  have h3 : f.ps.length ≤ 3 := h3
  have h6 : (showK b).length = (showB b).length + 4 := by unfold showK; simp
  show (textF (f, b)).length ≤ massB b + 5000
  unfold textF
  simp only [List.length_append, List.length_cons, List.length_nil]
  rw [h6]
  omega
theorem sumC_le {Q : List UInt8 → Prop} (hQ : ∀ s, Q s → s.length ≤ 1000) : ∀ (nd : List Nd), (∀ n ∈ nd, Q n.s) → sumC nd ≤ nd.length * 1060
  | [], _ => Nat.zero_le _
  | n :: l, h => by
    have h1 := sumC_le hQ l (fun m hm => h m (by simp [hm]))
    have h2 := hQ n.s (h n (by simp))
    show (n.s.length + 60) + sumC l ≤ (l.length + 1) * 1060
    omega
theorem massF_mem : ∀ (ps : List (Fnc × Bl)) (p : Fnc × Bl), p ∈ ps → massB p.2 ≤ massF ps
  | [], p, h => by cases h
  | q :: l, p, h => by
    show massB p.2 ≤ (massB q.2 + 60) + massF l
    rcases List.mem_cons.1 h with rfl | h
    · omega
    · have := massF_mem l p h; omega
theorem textT_len {Q : List UInt8 → Prop} {nd : List Nd} (hQ : ∀ s, Q s → s.length ≤ 1000) : ∀ (ps : List (Fnc × Bl)), (∀ p ∈ ps, FnOK Q p.1) → (∀ p ∈ ps, p.1.ps.length ≤ 3) → (∀ p ∈ ps, ∃ xs, At nd p.1.body 18 0 [] xs ∧ RepB Q nd p.2 xs) → (textT ps).length ≤ massF ps + ps.length * 5000
  | [], _, _, _ => Nat.zero_le _
  | p :: l, h1, h2, h3 => by
    have ih := textT_len hQ l (fun q hq => h1 q (by simp [hq])) (fun q hq => h2 q (by simp [hq])) (fun q hq => h3 q (by simp [hq]))
    obtain ⟨xs, _, h4⟩ := h3 p (by simp)
    have h5 := textF_len hQ p (h1 p (by simp)) (h2 p (by simp)) xs h4
    show (textF p ++ textT l).length ≤ ((massB p.2 + 60) + massF l) + (l.length + 1) * 5000
    rw [List.length_append]
    omega
end Go.Proofs.YtgelggdgbmldiaaDoor

namespace Go.Proofs.YtgelggdgbmldiaaDoor
set_option linter.unusedVariables false
set_option linter.unusedSimpArgs false
section
variable (src : List UInt8) (T : List Tok)
def isR (x : List UInt8) (s : PS) : Bool := decide (s.er = 0) && ((decide ((tokA T s).k = 5) || decide ((tokA T s).k = 4)) && decide ((tokA T s).x = x))
def kindR (k : Nat) (s : PS) : Bool := decide (s.er = 0) && decide ((tokA T s).k = k)
def failR (e : Nat) (s : PS) : PS := if s.er = 0 then { s with pl := (tokA T s).p, er := e } else s
def stepR (s : PS) : PS := { s with i := s.i + 1 }
def mustR (x : List UInt8) (s : PS) : PS := if isR T x s then stepR s else failR T 20 s
def wnameR (s : PS) : PS := if kindR T 3 s then stepR s else failR T 20 s
def wnameX (s : PS) : List UInt8 := if kindR T 3 s then (tokA T s).x else []
def callsR (s : PS) : Bool := kindR T 3 s && (decide ((T.getD (s.i + 1) default).k = 5) && decide ((T.getD (s.i + 1) default).x = [40]))
def deepR (s : PS) : PS := if 16 ≤ s.dp then failR T 21 s else s
def downR : PM Unit := do mod (deepR T); deepS 1
/-- One token on, where there is one. -/
def goR : PM Unit := fun s => if s.i + 1 < T.length then some ((), stepR s) else none
def withinR (ex : PM Int) (a b : List UInt8) : PM Int := do
  downR T
  mod (mustR T a)
  let x ← ex
  mod (mustR T b)
  deepS (-1)
  pure x
def ratomM (ex : PM Int) : PM Int := do
  let ln ← ask (lineS src T)
  let k ← ask (tokA T)
  let e ← ask PS.er
  if e ≠ 0 then pure 0
  else if k.k = 1 then (do
    goR T
    nodeM ⟨1, ln, intV k.x, [], []⟩ [])
  else if k.k = 2 then (do
    goR T
    nodeM ⟨3, ln, 0, k.x, []⟩ [])
  else if k.k = 3 then (do
    goR T
    let b ← ask (isR T [91])
    if b then (do
      let y ← withinR T ex [91] [93]
      nodeM ⟨5, ln, 0, k.x, []⟩ [y])
    else nodeM ⟨4, ln, 0, k.x, []⟩ [])
  else do
    let yes ← ask (isR T [116, 114, 117, 101])
    let no ← ask (isR T [102, 97, 108, 115, 101])
    if yes || no then (do
      goR T
      nodeM ⟨2, ln, if yes then 1 else 0, [], []⟩ [])
    else do
      let long ← ask (isR T [108, 101, 110])
      if long then goR T else pure ()
      let b ← ask (isR T [40])
      if b then (do
        let x ← withinR T ex [40] [41]
        if long then nodeM ⟨6, ln, 0, [], []⟩ [x] else pure x)
      else do
        mod (failR T 20)
        pure 0
def rfactorM (fac ex : PM Int) : PM Int := do
  let ln ← ask (lineS src T)
  let neg ← ask (isR T [45])
  let no ← ask (isR T [33])
  if neg || no then (do
    downR T
    goR T
    let x ← fac
    deepS (-1)
    nodeM ⟨if neg then 7 else 8, ln, 0, [], []⟩ [x])
  else ratomM src T ex
/-- Which sign of a level is next. -/
def nextR (l : List (List UInt8)) (s : PS) : List UInt8 := ((l.filter (fun x => isR T x s)).head?).getD []
def rchainR (lv : Nat) (sub : PM Int) (ln : Int) : Nat → Int → PM Int
  | 0, _ => fun _ => none
  | n + 1, x => do
    let g ← ask (nextR T (signsL lv))
    if g = [] then pure x
    else do
      goR T
      let y ← sub
      let z ← nodeM ⟨9, ln, 0, g, []⟩ [x, y]
      if lv = 2 then pure z else rchainR lv sub ln n z
def rexM : Nat → Nat → PM Int
  | 0, _ => fun _ => none
  | n + 1, lv =>
    if lv = 5 then rfactorM src T (rexM n 5) (rexM n 0)
    else do
      let ln ← ask (lineS src T)
      let x ← rexM n (lv + 1)
      rchainR T lv (rexM n (lv + 1)) ln n x
/-- What stands between commas. -/
def rargsR (ex : PM Int) : Nat → List Int → PM (List Int)
  | 0, _ => fun _ => none
  | n + 1, l => do
    let x ← ex
    let b ← ask (isR T [44])
    if b then (do
      goR T
      rargsR ex n (l ++ [x]))
    else pure (l ++ [x])
def rcallM (N : Nat) (ex : PM Int) : PM Int := do
  let ln ← ask (lineS src T)
  let x ← ask (wnameX T)
  mod (wnameR T)
  mod (mustR T [40])
  let b ← ask (fun s => !(isR T [41] s) && decide (s.er = 0))
  let l ← (if b then rargsR T ex N [] else pure [])
  mod (mustR T [41])
  nodeM ⟨21, ln, 0, x, []⟩ l
def rrightM (N : Nat) (ex : PM Int) : PM Int := do
  let ln ← ask (lineS src T)
  let b ← ask (isR T [105, 110, 112, 117, 116])
  if b then (do
    goR T
    nodeM ⟨19, ln, 0, [], []⟩ [])
  else do
    let b ← ask (isR T [110, 101, 119])
    if b then (do
      goR T
      mod (mustR T [40])
      let x ← ex
      mod (mustR T [41])
      nodeM ⟨20, ln, 0, [], []⟩ [x])
    else do
      let b ← ask (callsR T)
      if b then rcallM src T N ex else ex
def rnamedM (N : Nat) (ex : PM Int) (ln : Int) : PM Int := do
  let b ← ask (callsR T)
  if b then (do
    let x ← rcallM src T N ex
    mod (mustR T [59])
    nodeM ⟨13, ln, 0, [], []⟩ [x])
  else do
    let x ← ask (wnameX T)
    mod (wnameR T)
    let b ← ask (isR T [91])
    if b then (do
      let y ← withinR T ex [91] [93]
      mod (mustR T [61])
      let z ← ex
      mod (mustR T [59])
      nodeM ⟨12, ln, 0, x, []⟩ [y, z])
    else do
      mod (mustR T [61])
      let y ← rrightM src T N ex
      mod (mustR T [59])
      nodeM ⟨11, ln, 0, x, []⟩ [y]
def wordR (s : PS) : List UInt8 := if kindR T 4 s then (tokA T s).x else []
def rstatementM (N : Nat) (ex bl : PM Int) : PM Int := do
  let ln ← ask (lineS src T)
  let w ← ask (wordR T)
  if w = [108, 101, 116] then (do
    goR T
    let x ← ask (wnameX T)
    mod (wnameR T)
    mod (mustR T [61])
    let y ← rrightM src T N ex
    mod (mustR T [59])
    nodeM ⟨10, ln, 0, x, []⟩ [y])
  else if w = [112, 114, 105, 110, 116] then (do
    goR T
    let x ← ex
    mod (mustR T [59])
    nodeM ⟨14, ln, 0, [], []⟩ [x])
  else if w = [119, 104, 105, 108, 101] then (do
    goR T
    let x ← ex
    let y ← bl
    nodeM ⟨16, ln, 0, [], []⟩ [x, y])
  else if w = [105, 102] then (do
    goR T
    let x ← ex
    let y ← bl
    let b ← ask (isR T [101, 108, 115, 101])
    if b then (do
      goR T
      let z ← bl
      nodeM ⟨15, ln, 0, [], []⟩ [x, y, z])
    else nodeM ⟨15, ln, 0, [], []⟩ [x, y])
  else if w = [114, 101, 116, 117, 114, 110] then (do
    goR T
    let b ← ask (isR T [59])
    if b then (do
      mod (mustR T [59])
      nodeM ⟨17, ln, 0, [], []⟩ [])
    else do
      let x ← ex
      mod (mustR T [59])
      nodeM ⟨17, ln, 0, [], []⟩ [x])
  else rnamedM src T N ex ln
def rstmsR (st : PM Int) : Nat → List Int → PM (List Int)
  | 0, _ => fun _ => none
  | n + 1, l => do
    let b ← ask (fun s => decide (s.er = 0) && !(isR T [125] s))
    if b then (do
      let x ← st
      rstmsR st n (l ++ [x]))
    else pure l
def rblockM (N : Nat) (st : PM Int) : PM Int := do
  let ln ← ask (lineS src T)
  let b ← ask (isR T [123])
  if b then (do
    downR T
    mod (mustR T [123])
    let l ← rstmsR T st N []
    mod (mustR T [125])
    deepS (-1)
    nodeM ⟨18, ln, 0, [], []⟩ l)
  else do
    mod (failR T 20)
    pure 0
def rstM (N : Nat) : Nat → PM Int
  | 0 => fun _ => none
  | n + 1 => rstatementM src T N (rexM src T N 0) (rblockM src T N (rstM N n))
def typedM : PM Int := do
  let w ← ask (wordR T)
  if typeN w = 0 then (do
    mod (failR T 20)
    pure 0)
  else do
    goR T
    pure (typeN w)
def rparamsR : Nat → List (List UInt8 × Int) → PM (List (List UInt8 × Int))
  | 0, _ => fun _ => none
  | n + 1, l => do
    let x ← ask (wnameX T)
    mod (wnameR T)
    let t ← typedM T
    let b ← ask (isR T [44])
    if b then (do
      goR T
      rparamsR n (l ++ [(x, t)]))
    else pure (l ++ [(x, t)])
def rfunctionM (N : Nat) : PM Fnc := do
  let ln ← ask (lineS src T)
  mod (mustR T [102, 110])
  let x ← ask (wnameX T)
  mod (wnameR T)
  mod (mustR T [40])
  let b ← ask (fun s => !(isR T [41] s) && decide (s.er = 0))
  let ps ← (if b then rparamsR T N [] else pure [])
  mod (mustR T [41])
  let b ← ask (isR T [123])
  let r ← (if b then pure 0 else typedM T)
  let y ← rblockM src T N (rstM src T N N)
  pure ⟨x, ln, ps, r, y⟩
def rfnsR (N : Nat) : Nat → List Fnc → PM (List Fnc)
  | 0, _ => fun _ => none
  | n + 1, l => do
    let b ← ask (fun s => decide (s.er = 0) && !(kindR T 0 s))
    if b then (do
      let x ← rfunctionM src T N
      rfnsR N n (l ++ [x]))
    else pure l
end
def allR (N : Nat) (src : List UInt8) : Option ((Nat × Nat) ⊕ (List Nd × List Fnc)) :=
  if 600 < src.length then some (.inl (0, 4))
  else match (lexL src 0).2 with
    | some pe => some (.inl pe)
    | none => (rfnsR src (lexL src 0).1 N N [] ⟨0, 0, 0, [], 0⟩).map fun p => treeP p.1 p.2
end Go.Proofs.YtgelggdgbmldiaaDoor
