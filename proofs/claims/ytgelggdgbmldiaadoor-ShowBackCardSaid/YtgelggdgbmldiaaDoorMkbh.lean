/-
  Layer 2: the document's All. Written by an AI agent.
-/
import Derived.Test.YtgelggdgbmldiaaDoorMkbg
namespace Go.Proofs.YtgelggdgbmldiaaDoor
open Go Go.RowKit Go.Shelf
set_option linter.unusedVariables false
set_option linter.unusedSimpArgs false
set_option maxRecDepth 100000 in
set_option maxHeartbeats 16000000 in
theorem rpall_ok (s : ByteArray) (hs : s.size ≤ 600) (N : Nat) (hN : N ≤ 100000) (res : (Nat × Nat) ⊕ (List Nd × List Fnc)) (hnone : (lexL s.data.toList 0).2 = none) (h : (rfnsR s.data.toList (lexL s.data.toList 0).1 N N [] ⟨0, 0, 0, [], 0⟩).map (fun p => treeP p.1 p.2) = some res) (w : World)
    (FN : ∀ P, RfnC P s (lexL s.data.toList 0).1 (rfunctionM s.data.toList (lexL s.data.toList 0).1 N)) :
    Calls Tryd.prog 16 #[.string s] w fun e w' => TreeE 0 res e w' ∧ Keeps (fun _ => False) w w' := by
  obtain ⟨T, hT⟩ : ∃ T, T = (lexL s.data.toList 0).1 := ⟨_, rfl⟩
  have hok : TokOK T := by rw [hT]; exact tokOK_lex _ (by rw [len_size]; omega) hnone
  have FN : ∀ P, RfnC P s T (rfunctionM s.data.toList T N) := by rw [hT]; exact FN
  obtain ⟨F, sF, hfn, hres⟩ : ∃ F sF, rfnsR s.data.toList T N N [] ⟨0, 0, 0, [], 0⟩ = some (F, sF) ∧ treeP F sF = res := by
    rw [← hT] at h
    cases hx : rfnsR s.data.toList T N N [] ⟨0, 0, 0, [], 0⟩ with
    | none => rw [hx] at h; cases h
    | some p => rw [hx] at h; exact ⟨p.1, p.2, rfl, Option.some.inj h⟩
  have LC : Hid (∀ w1, Calls Tryd.prog 28 #[.string s] w1 fun e w' => ∃ A c, e = .returned (.tuple #[.slice A T.length c, .int .i64 0, .int .i64 0]) ∧ NewT T w1 A c w' ∧ Keeps (fun _ => False) w1 w') := Lib.hid fun w1 => by
    refine (rall_any s (by omega) w1).mono fun e w' ⟨h1, hk⟩ => ?_
    rw [if_neg (by rw [len_size]; omega), hnone] at h1
    obtain ⟨A, c, h2, h3⟩ := h1
    rw [hT]
    exact ⟨A, c, h2, h3, hk⟩
  have HOK := Lib.hid hok
  have HR := Lib.hid hres
  have HA := Lib.hid hfn
  obtain ⟨tl, htl⟩ : ∃ tl, tl = T.length := ⟨_, rfl⟩
  have HTL := Lib.hid htl
  rw [← htl] at LC
  have hsz : Hid (s.size ≤ 1000) := Lib.hid (by omega)
  obtain ⟨io, hio, hf0, hf1, hf2⟩ := info_parts info_func
  clear hok hres hfn h hT hnone htl hs
  go_enter Tryd.func16, Tryd.ntmps16
  go_upto_region 1 with fail
  have ka := Keeps.one w (.cells #[.slice none 0 0, .slice none 0 0] 27)
  obtain ⟨C, hC⟩ : ∃ C, C = w.heap.size := ⟨_, rfl⟩
  obtain ⟨w1, hw⟩ : ∃ w1, w1 = w.alloc (.cells #[.slice none 0 0, .slice none 0 0] 27) := ⟨_, rfl⟩
  have z : Loc w1 (fun _ => False) C [.slice none 0 0, .slice none 0 0] := by rw [hw, hC]; exact Loc.new (fun h => h) [.slice none 0 0, .slice none 0 0] 27
  rw [← hC]
  rw [← hw] at ka ⊢
  have Z := Lib.hid z
  have KA := Lib.hid ka
  have HC := Lib.hid hC
  have CC := Lib.hid (LC.out w1)
  clear z ka hC hw LC
  go_wp2_with fail
  refine CC.out.mono ?_
  rintro e w2 ⟨A, c, rfl, ⟨ho, hb⟩, k2⟩
  have Z2 := Lib.hid (Z.out.keeps k2)
  have HO := Lib.hid ho
  have HBT := Lib.hid hb
  have KA2 := Lib.hid (KA.out.trans k2 (fun _ _ h => h))
  have HS1 := Lib.hid Z.out.lt
  clear ho hb k2 CC Z
  go_upto_region 5 with fail
  obtain ⟨P, hP⟩ : ∃ P, P = w2.heap.size := ⟨_, rfl⟩
  obtain ⟨wP, hw⟩ : ∃ wP, wP = w2.alloc (.cells #[.string s, .slice A tl c, .int .i64 0, .slice none 0 0, .int .i64 0, .int .i64 0, .int .i64 0] 62) := ⟨_, rfl⟩
  have kp := Keeps.one w2 (.cells #[.string s, .slice A tl c, .int .i64 0, .slice none 0 0, .int .i64 0, .int .i64 0, .int .i64 0] 62)
  rw [← hP]
  rw [← hw] at kp ⊢
  obtain ⟨R, hR⟩ : ∃ R : Nat → Prop, R = fun b => b = P ∨ ∃ off, A = some ⟨b, off, none⟩ := ⟨_, rfl⟩
  have HW2 : Hid (w.heap.size < w2.heap.size ∧ C = w.heap.size ∧ P = w2.heap.size) := Lib.hid ⟨by have h1 := HS1.out; have h2 := HC.out; have h3 := Z2.out.lt; omega, HC.out, hP⟩
  have htb : Hid (∀ b off, A = some ⟨b, off, none⟩ → w.heap.size < b ∧ b < w2.heap.size) := Lib.hid fun b off e => by
    have e1 : (Value.slice A T.length c).ownBlock = some b := by rw [e]; rfl
    have h1 := HBT.out b e1
    have h2 := own_ltk HO.out e1
    have h3 := HS1.out
    have h4 := HC.out
    omega
  have HCR : Hid (¬ R C) := Lib.hid fun h => by
    have h2 := HW2.out
    rw [hR] at h
    rcases h with h | ⟨off, e⟩
    · omega
    · have := htb.out C off e
      omega
  have HRB : Hid (∀ b, R b → w.heap.size ≤ b) := Lib.hid fun b hb => by
    have h2 := HW2.out
    rw [hR] at hb
    rcases hb with h | ⟨off, e⟩
    · omega
    · have := htb.out b off e
      omega
  have HXC9 : Hid (Loc wP R C [.slice none 0 0, .slice none 0 0]) := Lib.hid ⟨Nat.lt_of_lt_of_le Z2.out.lt kp.size, HCR.out, fun k u hu => (kp.cell Z2.out.lt (fun h => h)).trans (Z2.out.cells k u hu), fun k => (kp.frozen Z2.out.lt (fun h => h)).trans (Z2.out.fz k)⟩
  have KW9 := Lib.hid (KA2.out.trans kp (fun _ _ h => h))
  have HP9 : Hid (Red wP P s T R ⟨0, 0, 0, [], 0⟩) := Lib.hid (by
    have zz := Loc.new (w := w2) (R := fun _ => False) (fun h => h) [.string s, .slice A tl c, .int .i64 0, .slice none 0 0, .int .i64 0, .int .i64 0, .int .i64 0] 62
    have zz : Loc wP (fun _ => False) P [.string s, .slice A tl c, .int .i64 0, .slice none 0 0, .int .i64 0, .int .i64 0, .int .i64 0] := by rw [hw, hP]; exact zz
    have hne := HOK.out.ne
    have hlt : ∀ b, R b → b < wP.heap.size := fun b hb => by
      rw [hR] at hb
      rcases hb with h | ⟨off, e⟩
      · rw [h]; exact zz.lt
      · exact Nat.lt_of_lt_of_le (htb.out b off e).2 kp.size
    refine ⟨A, c, .slice none 0 0, [], ?_⟩
    exact { c0 := zz.cells 0 _ rfl, c1 := by rw [← HTL.out]; exact zz.cells 1 _ rfl, c2 := zz.cells 2 _ rfl, c3 := zz.cells 3 _ rfl, c4 := zz.cells 4 _ rfl, c5 := zz.cells 5 _ rfl, c6 := zz.cells 6 _ rfl, fz := zz.fz, lt := hlt, rp := by rw [hR]; exact .inl rfl, tok := (own_rdT HO.out rfl).keep kp, tb := fun b off e => ⟨by rw [hR]; exact .inr ⟨off, e⟩, by have h1 := htb.out b off e; have h2 := HW2.out; omega, fun g hg => by simp [Value.ownBlock] at hg⟩, own := World.ownsRow_nil _ _ _ _, vb := fun g hg => by simp [Value.ownBlock] at hg, nd := rfl, ls := fun x hx => (by cases hx), hi := hne, ok := HOK.out })
  have HWP : Hid (w.heap.size ≤ wP.heap.size) := Lib.hid KW9.out.size
  clear kp hw hP hR Z2 HO HBT KA KA2 HS1 htb HCR HTL HOK HW2
  go_upto_region 6 with fail
  obtain ⟨D, hD⟩ : ∃ D, D = wP.heap.size := ⟨_, rfl⟩
  obtain ⟨wD, hw⟩ : ∃ wD, wD = wP.alloc (.cells #[.slice none 0 0, .slice none 0 0] 27) := ⟨_, rfl⟩
  have kd := Keeps.one wP (.cells #[.slice none 0 0, .slice none 0 0] 27)
  have HXD0 : Hid (Loc wD R D [.slice none 0 0, .slice none 0 0]) := Lib.hid (by rw [hw, hD]; exact Loc.new HP9.out.new [.slice none 0 0, .slice none 0 0] 27)
  rw [← hD]
  rw [← hw] at kd ⊢
  have HXC0 := Lib.hid (HXC9.out.keeps kd)
  have HP0 := Lib.hid (HP9.out.keep kd)
  have KW := Lib.hid (KW9.out.trans kd (fun _ _ h => h))
  have HF0 := Lib.hid ((Fr.refl R wP).keeps kd)
  have HPW : Hid (P < wP.heap.size) := Lib.hid HP9.out.lo
  have HDE : Hid (D = wP.heap.size) := Lib.hid hD
  have HDS : Hid (wD.heap.size = D + 1) := Lib.hid (by rw [hw, hD]; simp)
  have HDW : Hid (w.heap.size ≤ D) := Lib.hid (by rw [hD]; exact HWP.out)
  have HCW : Hid (w.heap.size ≤ C) := Lib.hid (by rw [HC.out]; exact Nat.le_refl _)
  have HCP : Hid (C < wD.heap.size) := Lib.hid HXC0.out.lt
  have HDP : Hid (D < wD.heap.size) := Lib.hid HXD0.out.lt
  have HCD : Hid (¬ C = D) := Lib.hid (by rw [hD]; have := HXC9.out.lt; omega)
  have HPP : Hid (P < wD.heap.size) := Lib.hid HP0.out.lo
  have HQ0 : Hid (FnsM wD.heap.size wD R (.slice none 0 0) 0 []) := Lib.hid ⟨rfl, World.ownsRow_nil _ _ _ _, fun g hg => by simp [Value.ownBlock] at hg, fun x hx => by cases hx⟩
  have HKW : Hid (∀ (Rk : Nat → Prop) wk, Fr R wP Rk wk → Keeps (fun b => w.heap.size ≤ b) w wk) := Lib.hid fun Rk wk hf => (KW9.out.mono (T := fun b => w.heap.size ≤ b) (fun _ _ h => h.elim)).trans hf.1 (fun b _ hb => HRB.out b hb)
  clear kd hw hD HXC9 HP9 KW9 HWP HRB KW HC
  go_wp2_with fail
  go_loopg [10, 11] N (fun k s10 s11 wr => ∃ (L : List FM) (A9 : Option Addr) (n c9 : Nat) (sk : PS) (Rk : Nat → Prop), n + k ≤ N ∧ rfnsR s.data.toList T N k (L.map FM.d) sk = some (F, sF) ∧ Red wr P s T Rk sk ∧ Fr R wP Rk wr ∧ Loc wr Rk C [.slice none 0 0, .slice none 0 0] ∧ Loc wr Rk D [.slice none 0 0, .slice A9 n c9] ∧ FnsM wD.heap.size wr Rk (.slice A9 n c9) n L)
  case atStart => exact ⟨[], none, 0, 0, _, _, by omega, HA.out, HP0.out, HF0.out, HXC0.out, HXD0.out, HQ0.out⟩
  case round =>
    obtain ⟨L, A9, n, c9, sk, Rk, hnk, hm, hp, hf, hxc, hxd, hq⟩ := hrel
    clear HP0 HF0 HXC0 HXD0 HQ0 HA
    cases gk with
    | zero =>
      have h0 : (none : Option (List Fnc × PS)) = some (F, sF) := hm
      cases h0
    | succ k =>
      unfold rfnsR at hm
      have c5 := hp.see.c5
      obtain ⟨b, hb, hm⟩ := ask_out hm
      obtain ⟨b2, hb2⟩ : ∃ b2, b2 = kindR T 0 sk := ⟨_, rfl⟩
      rw [← hb2] at hb
      have NC := Lib.hid (rkind_q hp 0 hb2)
      have HP0 := Lib.hid hp
      have HF0 := Lib.hid hf
      have HXC0 := Lib.hid hxc
      have HXD0 := Lib.hid hxd
      have HQ0 := Lib.hid hq
      have HA := Lib.hid hm
      have HNK := Lib.hid hnk
      have hn2 : n ≤ 100000 := by omega
      clear hp hf hxc hxd hq hm hnk hb2
      by_cases he : sk.er = 0
      · skip
        rw [he] at c5
        rw [decide_eq_true he, Bool.true_and] at hb
        have HER := Lib.hid he
        clear he
        cases b2 with
        | true =>
          have hb3 : b = false := hb
          clear hb
          subst hb3
          go_wp2_with fail
          refine NC.out.mono ?_
          rintro e w1 ⟨rfl, k1⟩
          have HP1 := Lib.hid (HP0.out.keep k1)
          have HF1 := Lib.hid (HF0.out.keeps k1)
          have HXC1 := Lib.hid (HXC0.out.keeps k1)
          have HXD1 := Lib.hid (HXD0.out.keeps k1)
          have HQ1 := Lib.hid (HQ0.out.keeps k1)
          clear HP0 HF0 HXC0 HXD0 HQ0 NC k1 
          go_upto_region 11 with fail
          clear c5
          have h := HA.out
          rw [if_neg (by decide)] at h
          obtain ⟨q1, q2⟩ := pure_end h
          subst q1
          subst q2
          clear HA h
          obtain ⟨A5, c5', h5⟩ := rtree_of (B := 0) HP1.out
          have HC5 := Lib.hid h5
          have HLN : Hid ((L.map FM.d).length = n) := Lib.hid (by rw [List.length_map]; exact HQ1.out.hn.symm)
          obtain ⟨m, hm⟩ : ∃ m, m = sF.nd.length := ⟨_, rfl⟩
          rw [← hm] at h5 HC5
          have HM := Lib.hid hm
          have hdn : ((0 : Int) != 0) = false := rfl
          clear hm
          obtain ⟨bg, hbg⟩ : ∃ bg, bg = (decide (300 < m) || decide (6 < n)) := ⟨_, rfl⟩
          have HBG := Lib.hid hbg
          have c5 := HP1.out.see.c5
          rw [HER.out] at c5
          have htp : treeP (L.map FM.d) sF = if bg || (L.map FM.d).any (fun f => decide (3 < f.ps.length)) then .inl (0, 4) else .inr (sF.nd, L.map FM.d) := by
            unfold treeP
            rw [if_pos HER.out, HLN.out, ← HM.out, ← HBG.out]
          have HTP : Hid (res = if bg || (L.map FM.d).any (fun f => decide (3 < f.ps.length)) then .inl (0, 4) else .inr (sF.nd, L.map FM.d)) := Lib.hid (by rw [← HR.out]; exact htp)
          clear htp hbg
          have zD0 := HXD1.out.cells 0 _ rfl
          have zD1 := HXD1.out.cells 1 _ rfl
          have gD0 := HXD1.out.fz 0
          go_upto_region 14 with fail
          clear c5 hdn h5 zD0 zD1 gD0
          obtain ⟨w2, hw⟩ : ∃ w2, w2 = w1.setCell ⟨D, 0, none⟩ (.slice A5 m c5') := ⟨_, rfl⟩
          have KD : Hid (Keeps (fun b => b = D) w1 w2) := Lib.hid (by rw [hw]; exact (Keeps.refl (fun b => b = D) w1).setCell (p := ⟨D, 0, none⟩) (fun _ => rfl) _)
          have HXD9 : Hid (Loc w2 Rk D [.slice A5 m c5', .slice A9 n c9]) := Lib.hid (by rw [hw]; exact HXD1.out.set 0 (.slice A5 m c5') (by simp))
          have HXC9 : Hid (Loc w2 Rk C [.slice none 0 0, .slice none 0 0]) := Lib.hid (HXC1.out.keepsR KD.out HCD.out)
          rw [← hw]
          clear hw
          obtain ⟨z1, z2⟩ := And.intro (HXD9.out.cells 0 _ rfl) (HXD9.out.cells 1 _ rfl)
          have z3 := HXC9.out.cells 0 _ rfl
          have z4 := HXC9.out.cells 1 _ rfl
          have f3 := HXC9.out.fz 0
          have f4 := HXC9.out.fz 1
          obtain ⟨i0, hi00⟩ : ∃ i0 : Nat, i0 = 0 := ⟨_, rfl⟩
          have hstart : Hid (bg = (bg || ((L.take 0).map FM.d).any (fun f => decide (3 < f.ps.length)))) := Lib.hid (by simp)
          by_cases h300 : 300 < m
          · skip
            have h3I : (300 : Int) < (m : Int) := by omega
            have h3d : decide ((300 : Int) < (m : Int)) = true := decide_eq_true h3I
            have HBGV : Hid (true = bg) := Lib.hid (by rw [HBG.out, decide_eq_true h300]; rfl)
            clear h300
            go_wp2_with fail
            go_loopg [12, 13] n (fun k s12 s13 wq => ∃ (i : Nat) (bb : Bool), s12 = .bool bb ∧ s13 = .int .i64 i ∧ i + k = n ∧ bb = (true || ((L.take i).map FM.d).any (fun f => decide (3 < f.ps.length))) ∧ wq = w2)
            case atStart => exact ⟨0, true, rfl, rfl, by omega, by simp, rfl⟩
            case round =>
              obtain ⟨i, bb, rfl, rfl, hik, hbb, rfl⟩ := hrel
              by_cases hin : i < n
              · have hinI : (i : Int) < (n : Int) := by omega
                have hd2 : decide ((i : Int) < (n : Int)) = true := decide_eq_true hinI
                have hi0 : (0 : Int) ≤ (i : Int) := by omega
                have HQR := Lib.hid (HQ1.out.keepS KD.out (fun b (e : b = D) => by rw [e]; exact HDP.out))
                have hL : i < L.length := by rw [← HQR.out.hn]; exact hin
                have hi1 : IntKind.i64.wrap ((i : Int) + 1) = (i : Int) + 1 := IntWalk.i64_in _ (by omega)
                have hnx : ((L.take (i + 1)).map FM.d).any (fun f => decide (3 < f.ps.length)) = (((L.take i).map FM.d).any (fun f => decide (3 < f.ps.length)) || decide (3 < (L[i]).d.ps.length)) := by
                  rw [List.take_succ_eq_append_getElem hL, List.map_append, List.any_append]
                  simp
                have HNX := Lib.hid hnx
                have HBB := Lib.hid hbb
                have HIK := Lib.hid hik
                have HIN := Lib.hid hin
                have HLL := Lib.hid hL
                clear hnx hbb hik
                cases bb with
                | true =>
                  go_wp2_with fail
                  go_roundg (gk - 1)
                  case measure => go_light; have h1 := HIK.out; have h2 := HIN.out; omega
                  case rel => exact ⟨i + 1, true, rfl, by go_num, by have h1 := HIK.out; have h2 := HIN.out; go_light; omega, by rw [HNX.out, ← Bool.or_assoc, ← HBB.out]; rfl, rfl⟩
                | false =>
                  obtain ⟨bk, off, rfl, hc⟩ := own_rdG HQR.out.own (by rw [flatF_length]; omega)
                  have e2 : wr.cell? ⟨bk, off + i * 5 + 2, none⟩ = some (.slice (L[i]).a (L[i]).d.ps.length (L[i]).c) := by
                    have h9 := hc (i * 5 + 2) _ (by rw [flatF_at L i 2 hL (by omega)]; rfl)
                    rw [show off + (i * 5 + 2) = off + i * 5 + 2 by omega] at h9
                    exact h9
                  obtain ⟨mp, hmp⟩ : ∃ mp, mp = (L[i]).d.ps.length := ⟨_, rfl⟩
                  rw [← hmp] at e2
                  have HMP := Lib.hid hmp
                  generalize (L[i]).a = fa at e2
                  generalize (L[i]).c = fc at e2
                  clear hc hmp
                  by_cases h3 : 3 < mp
                  · have h3p : (3 : Int) < (mp : Int) := by omega
                    have h3q : decide ((3 : Int) < (mp : Int)) = true := decide_eq_true h3p
                    have H3 := Lib.hid h3
                    clear h3
                    go_wp2_with fail
                    go_roundg (gk - 1)
                    case measure => go_light; have h1 := HIK.out; have h2 := HIN.out; omega
                    case rel => exact ⟨i + 1, true, rfl, by go_num, by have h1 := HIK.out; have h2 := HIN.out; go_light; omega, by rw [HNX.out, ← Bool.or_assoc, ← HBB.out]; exact (decide_eq_true (by have h1 := HMP.out; have h2 := H3.out; omega)).symm, rfl⟩
                  · have h3p : ¬ (3 : Int) < (mp : Int) := by omega
                    have h3q : decide ((3 : Int) < (mp : Int)) = false := decide_eq_false h3p
                    have H3 := Lib.hid h3
                    clear h3
                    go_wp2_with fail
                    go_roundg (gk - 1)
                    case measure => go_light; have h1 := HIK.out; have h2 := HIN.out; omega
                    case rel => exact ⟨i + 1, false, rfl, by go_num, by have h1 := HIK.out; have h2 := HIN.out; go_light; omega, by rw [HNX.out, ← Bool.or_assoc, ← HBB.out]; exact (decide_eq_false (by have h1 := HMP.out; have h2 := H3.out; omega)).symm, rfl⟩
              · obtain rfl : i = n := by omega
                have hinI : ¬ (i : Int) < (i : Int) := by omega
                have hd2 : decide ((i : Int) < (i : Int)) = false := decide_eq_false hinI
                have HAny : Hid (bb = (bg || (L.map FM.d).any (fun f => decide (3 < f.ps.length)))) := Lib.hid (by
                  rw [hbb, List.take_of_length_le (by rw [← HQ1.out.hn]; exact Nat.le_refl _), ← HBGV.out])
                have HKC : Hid (∀ v0 v1, Keeps (fun _ => False) w ((wr.setCell ⟨C, 0, none⟩ v0).setCell ⟨C, 1, none⟩ v1)) := Lib.hid fun v0 v1 => kback (((((HKW.out _ _ HF1.out).trans KD.out (fun x _ (e : x = D) => by rw [e]; exact HDW.out)).setCell (p := ⟨C, 0, none⟩) (fun _ => HCW.out) v0).setCell (p := ⟨C, 1, none⟩) (fun _ => HCW.out) v1)) rfl
                clear hin hik hbb
                cases bb with
                | true =>
                  go_wp2_with fail
                  (try simp only [Exit.inBlock, Exit.then])
                  refine bodyPost_ret (v := .tuple #[.agg #[.slice none 0 0, .slice none 0 0], .int .i64 0, .int .i64 4]) ?_ rfl ?_
                  · rw [results_cell_tmp3 rfl]
                    go_simp
                  exact ⟨treeE_inl (p := 0) (er := 4) (by rw [HTP.out, ← HAny.out]; rfl) _, HKC.out _ _⟩
                | false =>
                  go_wp2_with fail
                  (try simp only [Exit.inBlock, Exit.then])
                  refine bodyPost_ret (v := .tuple #[.agg #[.slice A5 m c5', .slice A9 i c9], .int .i64 0, .int .i64 0]) ?_ rfl ?_
                  · rw [results_cell_tmp3 rfl]
                    go_simp
                  have kz2 : Keeps (fun b => b = C ∨ b = D) w1 ((wr.setCell ⟨C, 0, none⟩ (.slice A5 m c5')).setCell ⟨C, 1, none⟩ (.slice A9 i c9)) := ((KD.out.mono (T := fun b => b = C ∨ b = D) (fun _ _ h => .inr h)).setCell (p := ⟨C, 0, none⟩) (fun _ => .inl rfl) _).setCell (p := ⟨C, 1, none⟩) (fun _ => .inl rfl) _
                  have htr6 := rtree_of2 HP1.out HQ1.out HC5.out kz2 (fun b hb => hb.elim (fun e => by rw [e]; exact HXC1.out.out) (fun e => by rw [e]; exact HXD1.out.out)) (fun b hb => hb.elim (fun e => by rw [e]; exact HCP.out) (fun e => by rw [e]; exact HDP.out))
                  exact ⟨treeE_inr (by rw [HTP.out, ← HAny.out]; rfl) HM.out HLN.out.symm htr6, HKC.out _ _⟩
          · skip
            have h3I : ¬ (300 : Int) < (m : Int) := by omega
            have h3d : decide ((300 : Int) < (m : Int)) = false := decide_eq_false h3I
            by_cases h6 : 6 < n
            · skip
              have h6I : (6 : Int) < (n : Int) := by omega
              have h6d : decide ((6 : Int) < (n : Int)) = true := decide_eq_true h6I
              have HBGV : Hid (true = bg) := Lib.hid (by rw [HBG.out, decide_eq_true h6]; simp)
              clear h6 h300
              go_wp2_with fail
              go_loopg [12, 13] n (fun k s12 s13 wq => ∃ (i : Nat) (bb : Bool), s12 = .bool bb ∧ s13 = .int .i64 i ∧ i + k = n ∧ bb = (true || ((L.take i).map FM.d).any (fun f => decide (3 < f.ps.length))) ∧ wq = w2)
              case atStart => exact ⟨0, true, rfl, rfl, by omega, by simp, rfl⟩
              case round =>
                obtain ⟨i, bb, rfl, rfl, hik, hbb, rfl⟩ := hrel
                by_cases hin : i < n
                · have hinI : (i : Int) < (n : Int) := by omega
                  have hd2 : decide ((i : Int) < (n : Int)) = true := decide_eq_true hinI
                  have hi0 : (0 : Int) ≤ (i : Int) := by omega
                  have HQR := Lib.hid (HQ1.out.keepS KD.out (fun b (e : b = D) => by rw [e]; exact HDP.out))
                  have hL : i < L.length := by rw [← HQR.out.hn]; exact hin
                  have hi1 : IntKind.i64.wrap ((i : Int) + 1) = (i : Int) + 1 := IntWalk.i64_in _ (by omega)
                  have hnx : ((L.take (i + 1)).map FM.d).any (fun f => decide (3 < f.ps.length)) = (((L.take i).map FM.d).any (fun f => decide (3 < f.ps.length)) || decide (3 < (L[i]).d.ps.length)) := by
                    rw [List.take_succ_eq_append_getElem hL, List.map_append, List.any_append]
                    simp
                  have HNX := Lib.hid hnx
                  have HBB := Lib.hid hbb
                  have HIK := Lib.hid hik
                  have HIN := Lib.hid hin
                  have HLL := Lib.hid hL
                  clear hnx hbb hik
                  cases bb with
                  | true =>
                    go_wp2_with fail
                    go_roundg (gk - 1)
                    case measure => go_light; have h1 := HIK.out; have h2 := HIN.out; omega
                    case rel => exact ⟨i + 1, true, rfl, by go_num, by have h1 := HIK.out; have h2 := HIN.out; go_light; omega, by rw [HNX.out, ← Bool.or_assoc, ← HBB.out]; rfl, rfl⟩
                  | false =>
                    obtain ⟨bk, off, rfl, hc⟩ := own_rdG HQR.out.own (by rw [flatF_length]; omega)
                    have e2 : wr.cell? ⟨bk, off + i * 5 + 2, none⟩ = some (.slice (L[i]).a (L[i]).d.ps.length (L[i]).c) := by
                      have h9 := hc (i * 5 + 2) _ (by rw [flatF_at L i 2 hL (by omega)]; rfl)
                      rw [show off + (i * 5 + 2) = off + i * 5 + 2 by omega] at h9
                      exact h9
                    obtain ⟨mp, hmp⟩ : ∃ mp, mp = (L[i]).d.ps.length := ⟨_, rfl⟩
                    rw [← hmp] at e2
                    have HMP := Lib.hid hmp
                    generalize (L[i]).a = fa at e2
                    generalize (L[i]).c = fc at e2
                    clear hc hmp
                    by_cases h3 : 3 < mp
                    · have h3p : (3 : Int) < (mp : Int) := by omega
                      have h3q : decide ((3 : Int) < (mp : Int)) = true := decide_eq_true h3p
                      have H3 := Lib.hid h3
                      clear h3
                      go_wp2_with fail
                      go_roundg (gk - 1)
                      case measure => go_light; have h1 := HIK.out; have h2 := HIN.out; omega
                      case rel => exact ⟨i + 1, true, rfl, by go_num, by have h1 := HIK.out; have h2 := HIN.out; go_light; omega, by rw [HNX.out, ← Bool.or_assoc, ← HBB.out]; exact (decide_eq_true (by have h1 := HMP.out; have h2 := H3.out; omega)).symm, rfl⟩
                    · have h3p : ¬ (3 : Int) < (mp : Int) := by omega
                      have h3q : decide ((3 : Int) < (mp : Int)) = false := decide_eq_false h3p
                      have H3 := Lib.hid h3
                      clear h3
                      go_wp2_with fail
                      go_roundg (gk - 1)
                      case measure => go_light; have h1 := HIK.out; have h2 := HIN.out; omega
                      case rel => exact ⟨i + 1, false, rfl, by go_num, by have h1 := HIK.out; have h2 := HIN.out; go_light; omega, by rw [HNX.out, ← Bool.or_assoc, ← HBB.out]; exact (decide_eq_false (by have h1 := HMP.out; have h2 := H3.out; omega)).symm, rfl⟩
                · obtain rfl : i = n := by omega
                  have hinI : ¬ (i : Int) < (i : Int) := by omega
                  have hd2 : decide ((i : Int) < (i : Int)) = false := decide_eq_false hinI
                  have HAny : Hid (bb = (bg || (L.map FM.d).any (fun f => decide (3 < f.ps.length)))) := Lib.hid (by
                    rw [hbb, List.take_of_length_le (by rw [← HQ1.out.hn]; exact Nat.le_refl _), ← HBGV.out])
                  have HKC : Hid (∀ v0 v1, Keeps (fun _ => False) w ((wr.setCell ⟨C, 0, none⟩ v0).setCell ⟨C, 1, none⟩ v1)) := Lib.hid fun v0 v1 => kback (((((HKW.out _ _ HF1.out).trans KD.out (fun x _ (e : x = D) => by rw [e]; exact HDW.out)).setCell (p := ⟨C, 0, none⟩) (fun _ => HCW.out) v0).setCell (p := ⟨C, 1, none⟩) (fun _ => HCW.out) v1)) rfl
                  clear hin hik hbb
                  cases bb with
                  | true =>
                    go_wp2_with fail
                    (try simp only [Exit.inBlock, Exit.then])
                    refine bodyPost_ret (v := .tuple #[.agg #[.slice none 0 0, .slice none 0 0], .int .i64 0, .int .i64 4]) ?_ rfl ?_
                    · rw [results_cell_tmp3 rfl]
                      go_simp
                    exact ⟨treeE_inl (p := 0) (er := 4) (by rw [HTP.out, ← HAny.out]; rfl) _, HKC.out _ _⟩
                  | false =>
                    go_wp2_with fail
                    (try simp only [Exit.inBlock, Exit.then])
                    refine bodyPost_ret (v := .tuple #[.agg #[.slice A5 m c5', .slice A9 i c9], .int .i64 0, .int .i64 0]) ?_ rfl ?_
                    · rw [results_cell_tmp3 rfl]
                      go_simp
                    have kz2 : Keeps (fun b => b = C ∨ b = D) w1 ((wr.setCell ⟨C, 0, none⟩ (.slice A5 m c5')).setCell ⟨C, 1, none⟩ (.slice A9 i c9)) := ((KD.out.mono (T := fun b => b = C ∨ b = D) (fun _ _ h => .inr h)).setCell (p := ⟨C, 0, none⟩) (fun _ => .inl rfl) _).setCell (p := ⟨C, 1, none⟩) (fun _ => .inl rfl) _
                    have htr6 := rtree_of2 HP1.out HQ1.out HC5.out kz2 (fun b hb => hb.elim (fun e => by rw [e]; exact HXC1.out.out) (fun e => by rw [e]; exact HXD1.out.out)) (fun b hb => hb.elim (fun e => by rw [e]; exact HCP.out) (fun e => by rw [e]; exact HDP.out))
                    exact ⟨treeE_inr (by rw [HTP.out, ← HAny.out]; rfl) HM.out HLN.out.symm htr6, HKC.out _ _⟩
            · skip
              have h6I : ¬ (6 : Int) < (n : Int) := by omega
              have h6d : decide ((6 : Int) < (n : Int)) = false := decide_eq_false h6I
              have HBGV : Hid (false = bg) := Lib.hid (by rw [HBG.out, decide_eq_false h300, decide_eq_false h6]; rfl)
              clear h6 h300
              go_wp2_with fail
              go_loopg [12, 13] n (fun k s12 s13 wq => ∃ (i : Nat) (bb : Bool), s12 = .bool bb ∧ s13 = .int .i64 i ∧ i + k = n ∧ bb = (false || ((L.take i).map FM.d).any (fun f => decide (3 < f.ps.length))) ∧ wq = w2)
              case atStart => exact ⟨0, false, rfl, rfl, by omega, by simp, rfl⟩
              case round =>
                obtain ⟨i, bb, rfl, rfl, hik, hbb, rfl⟩ := hrel
                by_cases hin : i < n
                · have hinI : (i : Int) < (n : Int) := by omega
                  have hd2 : decide ((i : Int) < (n : Int)) = true := decide_eq_true hinI
                  have hi0 : (0 : Int) ≤ (i : Int) := by omega
                  have HQR := Lib.hid (HQ1.out.keepS KD.out (fun b (e : b = D) => by rw [e]; exact HDP.out))
                  have hL : i < L.length := by rw [← HQR.out.hn]; exact hin
                  have hi1 : IntKind.i64.wrap ((i : Int) + 1) = (i : Int) + 1 := IntWalk.i64_in _ (by omega)
                  have hnx : ((L.take (i + 1)).map FM.d).any (fun f => decide (3 < f.ps.length)) = (((L.take i).map FM.d).any (fun f => decide (3 < f.ps.length)) || decide (3 < (L[i]).d.ps.length)) := by
                    rw [List.take_succ_eq_append_getElem hL, List.map_append, List.any_append]
                    simp
                  have HNX := Lib.hid hnx
                  have HBB := Lib.hid hbb
                  have HIK := Lib.hid hik
                  have HIN := Lib.hid hin
                  have HLL := Lib.hid hL
                  clear hnx hbb hik
                  cases bb with
                  | true =>
                    go_wp2_with fail
                    go_roundg (gk - 1)
                    case measure => go_light; have h1 := HIK.out; have h2 := HIN.out; omega
                    case rel => exact ⟨i + 1, true, rfl, by go_num, by have h1 := HIK.out; have h2 := HIN.out; go_light; omega, by rw [HNX.out, ← Bool.or_assoc, ← HBB.out]; rfl, rfl⟩
                  | false =>
                    obtain ⟨bk, off, rfl, hc⟩ := own_rdG HQR.out.own (by rw [flatF_length]; omega)
                    have e2 : wr.cell? ⟨bk, off + i * 5 + 2, none⟩ = some (.slice (L[i]).a (L[i]).d.ps.length (L[i]).c) := by
                      have h9 := hc (i * 5 + 2) _ (by rw [flatF_at L i 2 hL (by omega)]; rfl)
                      rw [show off + (i * 5 + 2) = off + i * 5 + 2 by omega] at h9
                      exact h9
                    obtain ⟨mp, hmp⟩ : ∃ mp, mp = (L[i]).d.ps.length := ⟨_, rfl⟩
                    rw [← hmp] at e2
                    have HMP := Lib.hid hmp
                    generalize (L[i]).a = fa at e2
                    generalize (L[i]).c = fc at e2
                    clear hc hmp
                    by_cases h3 : 3 < mp
                    · have h3p : (3 : Int) < (mp : Int) := by omega
                      have h3q : decide ((3 : Int) < (mp : Int)) = true := decide_eq_true h3p
                      have H3 := Lib.hid h3
                      clear h3
                      go_wp2_with fail
                      go_roundg (gk - 1)
                      case measure => go_light; have h1 := HIK.out; have h2 := HIN.out; omega
                      case rel => exact ⟨i + 1, true, rfl, by go_num, by have h1 := HIK.out; have h2 := HIN.out; go_light; omega, by rw [HNX.out, ← Bool.or_assoc, ← HBB.out]; exact (decide_eq_true (by have h1 := HMP.out; have h2 := H3.out; omega)).symm, rfl⟩
                    · have h3p : ¬ (3 : Int) < (mp : Int) := by omega
                      have h3q : decide ((3 : Int) < (mp : Int)) = false := decide_eq_false h3p
                      have H3 := Lib.hid h3
                      clear h3
                      go_wp2_with fail
                      go_roundg (gk - 1)
                      case measure => go_light; have h1 := HIK.out; have h2 := HIN.out; omega
                      case rel => exact ⟨i + 1, false, rfl, by go_num, by have h1 := HIK.out; have h2 := HIN.out; go_light; omega, by rw [HNX.out, ← Bool.or_assoc, ← HBB.out]; exact (decide_eq_false (by have h1 := HMP.out; have h2 := H3.out; omega)).symm, rfl⟩
                · obtain rfl : i = n := by omega
                  have hinI : ¬ (i : Int) < (i : Int) := by omega
                  have hd2 : decide ((i : Int) < (i : Int)) = false := decide_eq_false hinI
                  have HAny : Hid (bb = (bg || (L.map FM.d).any (fun f => decide (3 < f.ps.length)))) := Lib.hid (by
                    rw [hbb, List.take_of_length_le (by rw [← HQ1.out.hn]; exact Nat.le_refl _), ← HBGV.out])
                  have HKC : Hid (∀ v0 v1, Keeps (fun _ => False) w ((wr.setCell ⟨C, 0, none⟩ v0).setCell ⟨C, 1, none⟩ v1)) := Lib.hid fun v0 v1 => kback (((((HKW.out _ _ HF1.out).trans KD.out (fun x _ (e : x = D) => by rw [e]; exact HDW.out)).setCell (p := ⟨C, 0, none⟩) (fun _ => HCW.out) v0).setCell (p := ⟨C, 1, none⟩) (fun _ => HCW.out) v1)) rfl
                  clear hin hik hbb
                  cases bb with
                  | true =>
                    go_wp2_with fail
                    (try simp only [Exit.inBlock, Exit.then])
                    refine bodyPost_ret (v := .tuple #[.agg #[.slice none 0 0, .slice none 0 0], .int .i64 0, .int .i64 4]) ?_ rfl ?_
                    · rw [results_cell_tmp3 rfl]
                      go_simp
                    exact ⟨treeE_inl (p := 0) (er := 4) (by rw [HTP.out, ← HAny.out]; rfl) _, HKC.out _ _⟩
                  | false =>
                    go_wp2_with fail
                    (try simp only [Exit.inBlock, Exit.then])
                    refine bodyPost_ret (v := .tuple #[.agg #[.slice A5 m c5', .slice A9 i c9], .int .i64 0, .int .i64 0]) ?_ rfl ?_
                    · rw [results_cell_tmp3 rfl]
                      go_simp
                    have kz2 : Keeps (fun b => b = C ∨ b = D) w1 ((wr.setCell ⟨C, 0, none⟩ (.slice A5 m c5')).setCell ⟨C, 1, none⟩ (.slice A9 i c9)) := ((KD.out.mono (T := fun b => b = C ∨ b = D) (fun _ _ h => .inr h)).setCell (p := ⟨C, 0, none⟩) (fun _ => .inl rfl) _).setCell (p := ⟨C, 1, none⟩) (fun _ => .inl rfl) _
                    have htr6 := rtree_of2 HP1.out HQ1.out HC5.out kz2 (fun b hb => hb.elim (fun e => by rw [e]; exact HXC1.out.out) (fun e => by rw [e]; exact HXD1.out.out)) (fun b hb => hb.elim (fun e => by rw [e]; exact HCP.out) (fun e => by rw [e]; exact HDP.out))
                    exact ⟨treeE_inr (by rw [HTP.out, ← HAny.out]; rfl) HM.out HLN.out.symm htr6, HKC.out _ _⟩
        | false =>
          have hb3 : b = true := hb
          clear hb
          subst hb3
          go_wp2_with fail
          refine NC.out.mono ?_
          rintro e w3 ⟨rfl, k1⟩
          have HP1 := Lib.hid (HP0.out.keep k1)
          have HF1 := Lib.hid (HF0.out.keeps k1)
          have HXC1 := Lib.hid (HXC0.out.keeps k1)
          have HXD1 := Lib.hid (HXD0.out.keeps k1)
          have HQ1 := Lib.hid (HQ0.out.keeps k1)
          clear HP0 HF0 HXC0 HXD0 HQ0 NC k1 
          have h := HA.out
          first | rw [if_pos rfl] at h | rw [if_pos trivial] at h
          obtain ⟨fa, s2, hm, h⟩ := bind_out h
          replace HA := Lib.hid h
          have HLT : Hid (∀ g, (Value.slice A9 n c9).ownBlock = some g → g < w3.heap.size) := Lib.hid (fun g hg => own_ltk HQ1.out.own hg)
          have HSZ : Hid (wD.heap.size ≤ w3.heap.size) := Lib.hid (by rw [HDS.out]; exact HXD1.out.lt)
          have BC := Lib.hid (FN P _ _ _ _ _ hm HP1.out)
          clear h hm
          go_wp2_with fail
          refine BC.out.mono ?_
          rintro e w4 ⟨Af, cf, rfl, hof, R5, hp, hf, hbf⟩
          have HP2 := Lib.hid hp
          have HF2 := Lib.hid (HF1.out.trans hf)
          have HXC2 := Lib.hid (HXC1.out.keep hf)
          have HXD2 := Lib.hid (HXD1.out.keep hf)
          have HQ2 := Lib.hid (HQ1.out.keep hf)
          clear HP1 HF1 HXC1 HXD1 HQ1 hp hf BC c5
          have HOF := Lib.hid hof
          have HBF := Lib.hid hbf
          obtain ⟨mf, hmf⟩ : ∃ mf, mf = fa.ps.length := ⟨_, rfl⟩
          rw [← hmf]
          have HMF := Lib.hid hmf
          obtain ⟨x, hx⟩ : ∃ x : FM, x = ⟨fa, Af, cf⟩ := ⟨_, rfl⟩
          have HXX := Lib.hid hx
          have HXE : Hid (x.cells = [.string (ofL fa.s), .int .i64 fa.ln, .slice Af mf cf, .int .i64 fa.ret, .int .i64 fa.body]) := Lib.hid (by rw [hx, hmf]; rfl)
          have HRG : Hid (RdG w4 x.a (flatP x.d.ps)) := Lib.hid (by rw [hx]; exact own_rdG hof)
          have HFO : Hid (0 < (flatP x.d.ps).length → ∀ b off, x.a = some ⟨b, off, none⟩ → ¬ R5 b ∧ wD.heap.size ≤ b ∧ (Value.slice A9 n c9).ownBlock ≠ some b) := Lib.hid (by rw [hx]; exact fn_out hof hbf HLT.out HSZ.out)
          clear hof hbf hmf hx HOF HBF
          go_upto_region 10 with fail
          have ka := Keeps.one w4 (.cells #[.string (ofL fa.s), .int .i64 fa.ln, .slice Af mf cf, .int .i64 fa.ret, .int .i64 fa.body] 36)
          obtain ⟨X, hX⟩ : ∃ X, X = w4.heap.size := ⟨_, rfl⟩
          obtain ⟨w6, hw⟩ : ∃ w6, w6 = w4.alloc (.cells #[.string (ofL fa.s), .int .i64 fa.ln, .slice Af mf cf, .int .i64 fa.ret, .int .i64 fa.body] 36) := ⟨_, rfl⟩
          have HXX9 : Hid (Loc w6 R5 X [.string (ofL fa.s), .int .i64 fa.ln, .slice Af mf cf, .int .i64 fa.ret, .int .i64 fa.body]) := Lib.hid (by rw [hw, hX]; exact Loc.new HP2.out.new [.string (ofL fa.s), .int .i64 fa.ln, .slice Af mf cf, .int .i64 fa.ret, .int .i64 fa.body] 36)
          rw [← hX]
          rw [← hw] at ka ⊢
          have HP3 := Lib.hid (HP2.out.keep ka)
          have HF3 := Lib.hid (HF2.out.keeps ka)
          have HXC3 := Lib.hid (HXC2.out.keeps ka)
          have HXD3 := Lib.hid (HXD2.out.keeps ka)
          have HQ3 := Lib.hid (HQ2.out.keeps ka)
          have HRG2 := Lib.hid (HRG.out.keep ka (fun _ _ _ _ h => h))
          clear ka hw hX HRG HP2 HF2 HXC2 HXD2 HQ2
          have zD1 := HXD3.out.cells 1 _ rfl
          have y0 := HXX9.out.cells 0 _ rfl
          have y1 := HXX9.out.cells 1 _ rfl
          have y2 := HXX9.out.cells 2 _ rfl
          have y3 := HXX9.out.cells 3 _ rfl
          have y4 := HXX9.out.cells 4 _ rfl
          go_wp2_with (at_builtin; refine wpList_append_atk rfl (.tmp 41) (.tmp 43) 25 rfl 0 36 io _ 5 64 Tryd.underlying25 hio hf0 hf1 hf2 (by rfl) (by omega) (.slice A9 n c9) n (flatF L) (by rfl) (ownsRow_keep HQ3.out.own (fun g hg => (Keeps.one w6 _).block g (own_ltk HQ3.out.own hg) (fun h => h))) ⟨w6.heap.size, 0, none⟩ 1 1 x.cells (by rfl) (by rw [HXE.out]; rfl) (by have e := HXE.out; have hh := newsG (w := w6) x.cells 36; rw [e] at hh ⊢; exact hh) (FM.one x) (by omega) (by omega) (Nat.zero_le _) ?_; intro v5 w7 h5 g5 b5; obtain ⟨A5, c5, rfl⟩ := own_formk h5; have hsz2 : wD.heap.size ≤ w6.heap.size := (by rw [HDS.out]; exact HXD3.out.lt); have hq := HQ3.out.more HP3.out.lt hsz2 (Keeps.one w6 (.cells #[.string (ofL fa.s), .int .i64 fa.ln, .slice Af mf cf, .int .i64 fa.ret, .int .i64 fa.body] 36)) x (HRG2.out.keep (Keeps.one w6 _) (fun _ _ _ _ h => h)) HFO.out h5 g5 b5; have hmm := own_moreR HP3.out HF3.out HPW.out (fun g hg => ⟨(HQ3.out.blk g hg).1, Nat.le_trans (by have h1 := HDS.out; have h2 := HDE.out; omega) (HQ3.out.blk g hg).2⟩) (Keeps.one w6 (.cells #[.string (ofL fa.s), .int .i64 fa.ln, .slice Af mf cf, .int .i64 fa.ret, .int .i64 fa.body] 36)) g5 b5; have HP4 := Lib.hid hmm.1; have HF4 := Lib.hid hmm.2.1; have HQ4 := Lib.hid hq; have HXC4 := Lib.hid (HXC3.out.keepsR hmm.2.2.2 (fun hv => absurd (HQ3.out.blk _ hv).2 (Nat.not_le.2 HCP.out))); have HXD4 := Lib.hid (HXD3.out.keepsR hmm.2.2.2 (fun hv => absurd (HQ3.out.blk _ hv).2 (Nat.not_le.2 HDP.out))); clear hmm h5 g5 b5 hq hsz2 zD1 y0 y1 y2 y3 y4 HP3 HF3 HXC3 HXD3 HQ3; have zD1 := HXD4.out.cells 1 _ rfl; have gD1 := HXD4.out.fz 1)
          clear zD1 gD1
          obtain ⟨w8, hw⟩ : ∃ w8, w8 = w7.setCell ⟨D, 1, none⟩ (.slice A5 (n + 1) c5) := ⟨_, rfl⟩
          have KD : Keeps (fun b => b = D) w7 w8 := by rw [hw]; exact (Keeps.refl (fun b => b = D) w7).setCell (p := ⟨D, 1, none⟩) (fun _ => rfl) _
          have HP5 := Lib.hid (HP4.out.keepR KD (fun b hb (e : b = D) => HXD4.out.out (e ▸ hb)) (fun b (e : b = D) => by rw [e, HDE.out]; exact Nat.le_of_lt HPW.out))
          have HF5 : Hid (Fr R wP R5 w8) := Lib.hid (by rw [hw]; exact HF4.out.local (by rw [HDE.out]; exact Nat.le_refl _) 1 _)
          have HXD5 : Hid (Loc w8 R5 D [.slice none 0 0, .slice A5 (n + 1) c5]) := Lib.hid (by rw [hw]; exact HXD4.out.set 1 (.slice A5 (n + 1) c5) (by simp))
          have HXC5 : Hid (Loc w8 R5 C [.slice none 0 0, .slice none 0 0]) := Lib.hid (HXC4.out.keepsR KD HCD.out)
          have HQ5 := Lib.hid (HQ4.out.keepS KD (fun b (e : b = D) => by rw [e]; exact HDP.out))
          rw [← hw]
          clear hw KD HP4 HF4 HXC4 HXD4 HQ4
          go_roundg k
          case measure => omega
          case rel => exact ⟨L ++ [x], _, n + 1, _, _, _, by have := HNK.out; omega, by rw [List.map_append, show [x].map FM.d = [fa] by rw [HXX.out]; rfl]; exact HA.out, HP5.out, HF5.out, HXC5.out, HXD5.out, HQ5.out⟩
      · skip
        have HER := Lib.hid he
        have heI : ¬ (sk.er : Int) = 0 := by omega
        have hd : ((sk.er : Int) == 0) = false := by simpa using heI
        obtain rfl : b = false := by rw [hb, decide_eq_false he]; rfl
        clear hb he NC
        have h := HA.out
        rw [if_neg (by decide)] at h
        obtain ⟨q1, q2⟩ := pure_end h
        subst q1
        subst q2
        clear HA h
        have c6 := HP0.out.see.c6
        have HTP : Hid (res = .inl (sF.pl, sF.er)) := Lib.hid (by rw [← HR.out]; unfold treeP; rw [if_neg HER.out])
        have hdn : ((sF.er : Int) != 0) = true := by have := HER.out; simp; omega
        generalize hpl : (sF.pl : Int) = pl at c6
        have HPL := Lib.hid hpl
        generalize her : (sF.er : Int) = er at c5 hd hdn heI
        have HEI := Lib.hid her
        clear hpl her
        have zC0 := HXC0.out.cells 0 _ rfl
        have zC1 := HXC0.out.cells 1 _ rfl
        have gC0 := HXC0.out.fz 0
        have gC1 := HXC0.out.fz 1
        go_upto_region 12 with fail
        go_region
        all_goals go_wp2_with fail
        all_goals (try simp only [Exit.inBlock, Exit.then])
        all_goals refine bodyPost_ret (v := .tuple #[.agg #[.slice none 0 0, .slice none 0 0], .int .i64 pl, .int .i64 er]) ?_ rfl ?_
        all_goals first | (rw [results_cell_tmp3 rfl]; go_simp; done) | skip
        all_goals exact ⟨by rw [← HPL.out, ← HEI.out]; exact treeE_inl HTP.out _, (kback (((HKW.out _ _ HF0.out).setCell (p := ⟨C, 0, none⟩) (fun _ => HCW.out) _).setCell (p := ⟨C, 1, none⟩) (fun _ => HCW.out) _) rfl).drew⟩
end Go.Proofs.YtgelggdgbmldiaaDoor
