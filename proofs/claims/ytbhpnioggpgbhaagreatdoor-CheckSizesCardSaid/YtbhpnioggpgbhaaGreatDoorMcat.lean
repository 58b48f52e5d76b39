/-
 Layer 2: All. Written by an AI agent.
 Layer 2: the contract of All. Written by an AI agent.
 Layer 2: the document's example. Written by an AI agent.
 Layer 4: a tree's node in memory. Written by an AI agent.
-/
import Derived.Test.YtbhpnioggpgbhaaGreatDoorMcac
import Derived.Test.YtbhpnioggpgbhaaGreatDoorMcas
namespace Go.Proofs.YtbhpnioggpgbhaaGreatDoor
open Go Go.RowKit Go.Shelf
set_option linter.unusedVariables false
set_option linter.unusedSimpArgs false
set_option maxRecDepth 100000 in
set_option maxHeartbeats 16000000 in
theorem pall_ok (s : ByteArray) (hs : s.size ≤ 600) (N : Nat) (hN : N ≤ 100000) (res : (Nat × Nat) ⊕ (List Nd × List Fnc)) (hnone : (lexL s.data.toList 0).2 = none) (h : (fnsR s.data.toList (lexL s.data.toList 0).1 N N [] ⟨0, 0, 0, [], 0⟩).map (fun p => treeP p.1 p.2) = some res) (w : World) (he : ErrW w)
  (FN : ∀ P, FnC P s (lexL s.data.toList 0).1 (functionM s.data.toList (lexL s.data.toList 0).1 N)) :
  Calls Tryz.prog 22 #[.string s] w fun e w' => TreeE 0 res e w' ∧ Keeps (fun _ => False) w w' := by
 obtain ⟨T, hT⟩ : ∃ T, T = (lexL s.data.toList 0).1 := ⟨_, rfl⟩
 have hok : TokOK T := by rw [hT]; exact tokOK_lex _ (by rw [len_size]; omega) hnone
 have FN : ∀ P, FnC P s T (functionM s.data.toList T N) := by rw [hT]; exact FN
 obtain ⟨F, sF, hfn, hres⟩ : ∃ F sF, fnsR s.data.toList T N N [] ⟨0, 0, 0, [], 0⟩ = some (F, sF) ∧ treeP F sF = res := by
  rw [← hT] at h
  cases hx : fnsR s.data.toList T N N [] ⟨0, 0, 0, [], 0⟩ with
  | none => rw [hx] at h; cases h
  | some p => rw [hx] at h; exact ⟨p.1, p.2, rfl, Option.some.inj h⟩
 have LC : Hid (∀ w1, Keeps (fun _ => False) w w1 → Calls Tryz.prog 33 #[.string s] w1 fun e w' => ∃ A c, e = .returned (.tuple #[.slice A T.length c, .int .i64 0, .int .i64 0]) ∧ NewT T w1 A c w' ∧ Keeps (fun _ => False) w1 w') := Lib.hid fun w1 k => by
  refine (all_any s (by omega) w1 (he.keep k)).mono fun e w' ⟨h1, hk⟩ => ?_
  rw [if_neg (by rw [len_size]; omega), hnone] at h1
  obtain ⟨A, c, h2, h3⟩ := h1
  rw [hT]
  exact ⟨A, c, h2, h3, hk⟩
 have HOK := Lib.hid hok
 have HR := Lib.hid hres
 have HA := Lib.hid hfn
 have HE := Lib.hid he
 obtain ⟨tl, htl⟩ : ∃ tl, tl = T.length := ⟨_, rfl⟩
 have HTL := Lib.hid htl
 rw [← htl] at LC
 have hsz : Hid (s.size ≤ 1000) := Lib.hid (by omega)
 obtain ⟨io, hio, hf0, hf1, hf2⟩ := info_parts info_func
 clear hok hres hfn he h hT hnone htl hs
 go_enter Tryz.func22, Tryz.ntmps22
 go_upto_region 1 with fail
 have ka := Keeps.one w (.cells #[.slice none 0 0, .slice none 0 0] 27)
 obtain ⟨C, hC⟩ : ∃ C, C = w.heap.size := ⟨_, rfl⟩
 obtain ⟨w1, hw⟩ : ∃ w1, w1 = w.alloc (.cells #[.slice none 0 0, .slice none 0 0] 27) := ⟨_, rfl⟩
 have z : Loc w1 (fun _ => False) C [.slice none 0 0, .slice none 0 0] := by rw [hw, hC]; exact Loc.new (fun h => h) [.slice none 0 0, .slice none 0 0] 27
 rw [← hC]
 rw [← hw] at ka ⊢
 have Z := Lib.hid z
 have KA := Lib.hid ka
 have HC := Lib.hid hC
 have CC := Lib.hid (LC.out w1 ka)
 clear z ka hC hw LC
 go_wp2_with fail
 refine CC.out.mono ?_
 rintro e w2 ⟨A, c, rfl, ⟨ho, hb⟩, k2⟩
 have Z2 := Lib.hid (Z.out.keeps k2)
 have HO := Lib.hid ho
 have HBT := Lib.hid hb
 have KA2 := Lib.hid (KA.out.trans k2 (fun _ _ h => h))
 have HS1 := Lib.hid Z.out.lt
 clear ho hb k2 CC Z
 go_upto_region 5 with fail
 obtain ⟨P, hP⟩ : ∃ P, P = w2.heap.size := ⟨_, rfl⟩
 obtain ⟨wP, hw⟩ : ∃ wP, wP = w2.alloc (.cells #[.string s, .slice A tl c, .int .i64 0, .int .i64 0, .int .i64 0, .slice none 0 0, .int .i64 0] 75) := ⟨_, rfl⟩
 have kp := Keeps.one w2 (.cells #[.string s, .slice A tl c, .int .i64 0, .int .i64 0, .int .i64 0, .slice none 0 0, .int .i64 0] 75)
 rw [← hP]
 rw [← hw] at kp ⊢
 obtain ⟨R, hR⟩ : ∃ R : Nat → Prop, R = fun b => b = P ∨ ∃ off, A = some ⟨b, off, none⟩ := ⟨_, rfl⟩
 have HW2 : Hid (w.heap.size < w2.heap.size ∧ C = w.heap.size ∧ P = w2.heap.size) := Lib.hid ⟨by have h1 := HS1.out; have h2 := HC.out; have h3 := Z2.out.lt; omega, HC.out, hP⟩
 have htb : Hid (∀ b off, A = some ⟨b, off, none⟩ → w.heap.size < b ∧ b < w2.heap.size) := Lib.hid fun b off e => by
  have e1 : (Value.slice A T.length c).ownBlock = some b := by rw [e]; rfl
  have h1 := HBT.out b e1
  have h2 := own_ltk HO.out e1
  have h3 := HS1.out
  have h4 := HC.out
  omega
 have HCR : Hid (¬ R C) := Lib.hid fun h => by
  have h2 := HW2.out
  rw [hR] at h
  rcases h with h | ⟨off, e⟩
  ·omega
  ·have := htb.out C off e
   omega
 have HRB : Hid (∀ b, R b → w.heap.size ≤ b) := Lib.hid fun b hb => by
  have h2 := HW2.out
  rw [hR] at hb
  rcases hb with h | ⟨off, e⟩
  ·omega
  ·have := htb.out b off e
   omega
 have HXC0 : Hid (Loc wP R C [.slice none 0 0, .slice none 0 0]) := Lib.hid ⟨Nat.lt_of_lt_of_le Z2.out.lt kp.size, HCR.out, fun k u hu => (kp.cell Z2.out.lt (fun h => h)).trans (Z2.out.cells k u hu), fun k => (kp.frozen Z2.out.lt (fun h => h)).trans (Z2.out.fz k)⟩
 have KW := Lib.hid (KA2.out.trans kp (fun _ _ h => h))
 have HP0 : Hid (Par wP P s T R ⟨0, 0, 0, [], 0⟩) := Lib.hid (by
  have zz := Loc.new (w := w2) (R := fun _ => False) (fun h => h) [.string s, .slice A tl c, .int .i64 0, .int .i64 0, .int .i64 0, .slice none 0 0, .int .i64 0] 75
  have zz : Loc wP (fun _ => False) P [.string s, .slice A tl c, .int .i64 0, .int .i64 0, .int .i64 0, .slice none 0 0, .int .i64 0] := by rw [hw, hP]; exact zz
  have hne := HOK.out.ne
  have hlt : ∀ b, R b → b < wP.heap.size := fun b hb => by
   rw [hR] at hb
   rcases hb with h | ⟨off, e⟩
   ·rw [h]; exact zz.lt
   ·exact Nat.lt_of_lt_of_le (htb.out b off e).2 kp.size
  have her : ErrP P R wP := by
   obtain ⟨g, tp, p, h1, h2, h3⟩ := HE.out
   refine ⟨w.heap.size, by have := HW2.out; omega, HRB.out, g, tp, p, h1, h2, Nat.lt_of_lt_of_le h2 KW.out.size, ?_⟩
   unfold World.var? at h3 ⊢
   rw [h1] at h3 ⊢
   simp only [Option.bind_some] at h3 ⊢
   rw [KW.out.block g h2 (fun h => h)]
   exact h3
  refine ⟨A, c, .slice none 0 0, [], ?_⟩
  exact { c0 := zz.cells 0 _ rfl, c1 := by rw [← HTL.out]; exact zz.cells 1 _ rfl, c2 := zz.cells 2 _ rfl, c3 := zz.cells 3 _ rfl, c4 := zz.cells 4 _ rfl, c5 := zz.cells 5 _ rfl, c6 := zz.cells 6 _ rfl, fz := zz.fz, lt := hlt, rp := by rw [hR]; exact .inl rfl, tok := (own_rdT HO.out rfl).keep kp, tb := fun b off e => ⟨by rw [hR]; exact .inr ⟨off, e⟩, by have h1 := htb.out b off e; have h2 := HW2.out; omega, fun g hg => by simp [Value.ownBlock] at hg⟩, own := World.ownsRow_nil _ _ _ _, vb := fun g hg => by simp [Value.ownBlock] at hg, nd := rfl, ls := fun x hx => (by cases hx), cap := fun x hx => (by cases hx), hi := hne, ok := HOK.out, er := her })
 have HF0 := Lib.hid (Fr.refl R wP)
 have HQ0 : Hid (FnsM wP.heap.size wP R (.slice none 0 0) 0 []) := Lib.hid ⟨rfl, World.ownsRow_nil _ _ _ _, fun g hg => by simp [Value.ownBlock] at hg, fun x hx => by cases hx⟩
 have HKE : Hid (∀ (Rk : Nat → Prop) wk, Fr R wP Rk wk → ∀ v0 v1, Keeps (fun _ => False) w ((wk.setCell ⟨C, 0, none⟩ v0).setCell ⟨C, 1, none⟩ v1)) := Lib.hid fun Rk wk hf v0 v1 => by
  have k := (KW.out.mono (T := fun b => w.heap.size ≤ b) (fun _ _ h => h.elim)).trans hf.1 (fun b _ hb => HRB.out b hb)
  have hc : w.heap.size ≤ C := by rw [HC.out]; exact Nat.le_refl _
  exact kback ((k.setCell (p := ⟨C, 0, none⟩) (fun _ => hc) v0).setCell (p := ⟨C, 1, none⟩) (fun _ => hc) v1) rfl
 have HCP : Hid (C < wP.heap.size) := Lib.hid HXC0.out.lt
 have HPP : Hid (P < wP.heap.size) := Lib.hid HP0.out.lo
 clear kp hw hP hR Z2 HO HBT KA KA2 HS1 htb HCR HRB KW HC HW2 HE HTL HOK
 go_wp2_with fail
 go_loopg [9] N (fun k s9 wr => ∃ (L : List FM) (A9 : Option Addr) (n c9 : Nat) (sk : PS) (Rk : Nat → Prop), s9 = .slice A9 n c9 ∧ n + k ≤ N ∧ fnsR s.data.toList T N k (L.map FM.d) sk = some (F, sF) ∧ Par wr P s T Rk sk ∧ Fr R wP Rk wr ∧ Loc wr Rk C [.slice none 0 0, .slice none 0 0] ∧ FnsM wP.heap.size wr Rk (.slice A9 n c9) n L)
 case atStart => exact ⟨[], none, 0, 0, _, _, rfl, by omega, HA.out, HP0.out, HF0.out, HXC0.out, HQ0.out⟩
 case round =>
  obtain ⟨L, A9, n, c9, sk, Rk, rfl, hnk, hm, hp, hf, hxc, hq⟩ := hrel
  clear HP0 HF0 HXC0 HQ0 HA
  cases gk with
  | zero =>
   have h0 : (none : Option (List Fnc × PS)) = some (F, sF) := hm
   cases h0
  | succ k =>
   unfold fnsR at hm
   have c4 := hp.see.c4
   obtain ⟨b, hb, hm⟩ := ask_out hm
   obtain ⟨tk, htk⟩ : ∃ tk, tk = tokA T sk := ⟨_, rfl⟩
   rw [← htk] at hb
   have NC := Lib.hid (now_at hp htk)
   have HP0 := Lib.hid hp
   have HF0 := Lib.hid hf
   have HXC0 := Lib.hid hxc
   have HQ0 := Lib.hid hq
   have HA := Lib.hid hm
   have HNK := Lib.hid hnk
   have hn2 : n ≤ 100000 := by omega
   clear hp hf hxc hq hm hnk htk
   by_cases he : sk.er = 0
   ·skip
    rw [he] at c4
    rw [decide_eq_true he, Bool.true_and] at hb
    have HER := Lib.hid he
    clear he
    have F0 : ∀ w, Sem.run Tryz.prog (Instr.field 77 (.agg #[.int .i64 (tk.k : Int), .string (ofL tk.x), .int .i64 (tk.p : Int)]) 0) w = .ok (.int .i64 (tk.k : Int)) w := fun w => tok_field0 _ _ _ w
    by_cases hk : tk.k = 0
    ·skip
     obtain rfl : b = false := by rw [hb, decide_eq_true hk]; rfl
     have hkn : ((tk.k : Int) != 0) = false := by simp; omega
     clear hk hb
     go_wp2_with fail
     refine NC.out.mono ?_
     rintro e w1 ⟨rfl, k1⟩
     have HP1 := Lib.hid (HP0.out.keep k1)
     have HF1 := Lib.hid (HF0.out.keeps k1)
     have HXC1 := Lib.hid (HXC0.out.keeps k1)
     have HQ1 := Lib.hid (HQ0.out.keeps k1)
     clear HP0 HF0 HXC0 HQ0 NC k1 
     go_upto_region 8 with fail
     clear hkn F0 c4
     have h := HA.out
     rw [if_neg (by decide)] at h
     obtain ⟨q1, q2⟩ := pure_end h
     subst q1
     subst q2
     clear HA h
     obtain ⟨A5, c5, h5, htr⟩ := tree_of HP1.out HQ1.out
     have HTR := Lib.hid htr
     have HC5 := Lib.hid h5
     have HLN : Hid ((L.map FM.d).length = n) := Lib.hid (by rw [List.length_map]; exact HQ1.out.hn.symm)
     obtain ⟨m, hm⟩ : ∃ m, m = sF.nd.length := ⟨_, rfl⟩
     rw [← hm] at h5 HC5
     have HM := Lib.hid hm
     have hdn : ((0 : Int) != 0) = false := rfl
     clear htr hm
     obtain ⟨bg, hbg⟩ : ∃ bg, bg = (decide (300 < m) || decide (6 < n)) := ⟨_, rfl⟩
     have HBG := Lib.hid hbg
     have c4 := HP1.out.see.c4
     rw [HER.out] at c4
     have htp : treeP (L.map FM.d) sF = if bg || (L.map FM.d).any (fun f => decide (3 < f.ps.length)) then .inl (0, 4) else .inr (sF.nd, L.map FM.d) := by
      unfold treeP
      rw [if_pos HER.out, HLN.out, ← HM.out, ← HBG.out]
     have HTP : Hid (res = if bg || (L.map FM.d).any (fun f => decide (3 < f.ps.length)) then .inl (0, 4) else .inr (sF.nd, L.map FM.d)) := Lib.hid (by rw [← HR.out]; exact htp)
     clear htp
     by_cases h300 : 300 < m
     ·skip
      have h3I : (300 : Int) < (m : Int) := by omega
      have h3d : decide ((300 : Int) < (m : Int)) = true := decide_eq_true h3I
      have HB4 : Hid (bg = true) := Lib.hid (by rw [HBG.out, decide_eq_true h300]; rfl)
      clear hbg h300
      have zC0 := HXC1.out.cells 0 _ rfl
      have zC1 := HXC1.out.cells 1 _ rfl
      have gC0 := HXC1.out.fz 0
      have gC1 := HXC1.out.fz 1
      go_wp2_with fail
      (try simp only [Exit.inBlock, Exit.then])
      refine bodyPost_ret (v := .tuple #[.agg #[.slice none 0 0, .slice none 0 0], .int .i64 0, .int .i64 4]) ?_ rfl ?_
      ·rw [results_cell_tmp3 rfl]
       go_simp
      clear zC0 zC1 gC0 gC1
      exact ⟨treeE_inl (p := 0) (er := 4) (by rw [HTP.out, HB4.out]; rfl) _, HKE.out _ _ HF1.out _ _⟩
     ·skip
      have h3I : ¬ (300 : Int) < (m : Int) := by omega
      have h3d : decide ((300 : Int) < (m : Int)) = false := decide_eq_false h3I
      by_cases h6 : 6 < n
      ·skip
       have h6I : (6 : Int) < (n : Int) := by omega
       have h6d : decide ((6 : Int) < (n : Int)) = true := decide_eq_true h6I
       have HB4 : Hid (bg = true) := Lib.hid (by rw [HBG.out, decide_eq_true h6]; simp)
       clear hbg h6 h300
       have zC0 := HXC1.out.cells 0 _ rfl
       have zC1 := HXC1.out.cells 1 _ rfl
       have gC0 := HXC1.out.fz 0
       have gC1 := HXC1.out.fz 1
       go_wp2_with fail
       (try simp only [Exit.inBlock, Exit.then])
       refine bodyPost_ret (v := .tuple #[.agg #[.slice none 0 0, .slice none 0 0], .int .i64 0, .int .i64 4]) ?_ rfl ?_
       ·rw [results_cell_tmp3 rfl]
        go_simp
       clear zC0 zC1 gC0 gC1
       exact ⟨treeE_inl (p := 0) (er := 4) (by rw [HTP.out, HB4.out]; rfl) _, HKE.out _ _ HF1.out _ _⟩
      ·skip
       have h6I : ¬ (6 : Int) < (n : Int) := by omega
       have h6d : decide ((6 : Int) < (n : Int)) = false := decide_eq_false h6I
       have HB0 : Hid (bg = false) := Lib.hid (by rw [HBG.out, decide_eq_false h300, decide_eq_false h6]; rfl)
       clear hbg h6 h300
       go_wp2_with fail
       go_loopg [11, 64] n (fun k s11 s64 wr => ∃ i : Nat, s64 = .int .i64 i ∧ i + k = n ∧ (∀ j (hj : j < L.length), j < i → ¬ 3 < (L[j]).d.ps.length) ∧ Keeps (fun _ => False) w1 wr)
       case atStart => exact ⟨0, rfl, by omega, fun j _ hj => by omega, Keeps.refl _ _⟩
       case round =>
        obtain ⟨i, rfl, hik, hsm, kr⟩ := hrel
        have KR := Lib.hid kr
        have HSM := Lib.hid hsm
        have HQR := Lib.hid (HQ1.out.keeps kr)
        have zC0 := (kr.cell HXC1.out.lt (fun h => h)).trans (HXC1.out.cells 0 _ rfl)
        have zC1 := (kr.cell HXC1.out.lt (fun h => h)).trans (HXC1.out.cells 1 _ rfl)
        have gC0 := (kr.frozen HXC1.out.lt (fun h => h)).trans (HXC1.out.fz 0)
        have gC1 := (kr.frozen HXC1.out.lt (fun h => h)).trans (HXC1.out.fz 1)
        have HKF : Hid (∀ wq, Keeps (fun _ => False) wr wq → ∀ v0 v1, Keeps (fun _ => False) w ((wq.setCell ⟨C, 0, none⟩ v0).setCell ⟨C, 1, none⟩ v1)) := Lib.hid fun wq kq v0 v1 => HKE.out _ _ (HF1.out.keeps (KR.out.trans kq (fun _ _ h => h))) v0 v1
        have HTRR := Lib.hid (HTR.out.keep kr)
        have h5 := (kr.cell HP1.out.lo (fun h => h)).trans HC5.out
        clear kr hsm
        by_cases hin : i < n
        ·have hinI : (i : Int) < (n : Int) := by omega
         have hd2 : decide ((i : Int) < (n : Int)) = true := decide_eq_true hinI
         have hi0 : (0 : Int) ≤ (i : Int) := by omega
         have hL : i < L.length := by rw [← HQR.out.hn]; exact hin
         obtain ⟨bb, off, rfl, hc⟩ := own_rdG HQR.out.own (by rw [flatF_length]; omega)
         have hcc : ∀ j u, (L[i]).cells[j]? = some u → j < 5 → wr.cell? ⟨bb, off + (i * 5 + j), none⟩ = some u := fun j u hu hj => hc (i * 5 + j) u (by rw [flatF_at L i j hL hj]; exact hu)
         have e0 := hcc 0 _ rfl (by omega)
         have e1 := hcc 1 _ rfl (by omega)
         have e2 := hcc 2 _ rfl (by omega)
         have e3 := hcc 3 _ rfl (by omega)
         have e4 := hcc 4 _ rfl (by omega)
         rw [show off + (i * 5 + 0) = off + i * 5 by omega] at e0
         rw [show off + (i * 5 + 1) = off + i * 5 + 1 by omega] at e1
         rw [show off + (i * 5 + 2) = off + i * 5 + 2 by omega] at e2
         rw [show off + (i * 5 + 3) = off + i * 5 + 3 by omega] at e3
         rw [show off + (i * 5 + 4) = off + i * 5 + 4 by omega] at e4
         obtain ⟨mp, hmp⟩ : ∃ mp, mp = (L[i]).d.ps.length := ⟨_, rfl⟩
         rw [← hmp] at e2
         have HMP := Lib.hid hmp
         have HL := Lib.hid hL
         have HIN := Lib.hid hin
         have HIK := Lib.hid hik
         have hi1 : IntKind.i64.wrap ((i : Int) + 1) = (i : Int) + 1 := IntWalk.i64_in _ (by omega)
         generalize ofL (L[i]).d.s = fx at e0
         generalize (L[i]).d.ln = fl at e1
         generalize (L[i]).a = fa at e2
         generalize (L[i]).c = fc at e2
         generalize (L[i]).d.ret = fr at e3
         generalize (L[i]).d.body = fb at e4
         clear hcc hc hmp hik
         by_cases h3 : 3 < mp
         ·have h3p : (3 : Int) < (mp : Int) := by omega
          have h3q : decide ((3 : Int) < (mp : Int)) = true := decide_eq_true h3p
          have HB4 : Hid ((bg || (L.map FM.d).any (fun f => decide (3 < f.ps.length))) = true) := Lib.hid (by
           rw [Bool.or_eq_true, List.any_eq_true]
           exact .inr ⟨(L[i]'HL.out).d, List.mem_map.2 ⟨_, List.getElem_mem HL.out, rfl⟩, by rw [← HMP.out]; exact decide_eq_true h3⟩)
          clear h3
          have d0 := ((Keeps.one wr (.cells #[.string fx, .int .i64 fl, .slice fa mp fc, .int .i64 fr, .int .i64 fb] 49)).cell (cell_ltk zC0) (fun h => h)).trans zC0
          have d1 := ((Keeps.one wr (.cells #[.string fx, .int .i64 fl, .slice fa mp fc, .int .i64 fr, .int .i64 fb] 49)).cell (cell_ltk zC1) (fun h => h)).trans zC1
          have g0 := ((Keeps.one wr (.cells #[.string fx, .int .i64 fl, .slice fa mp fc, .int .i64 fr, .int .i64 fb] 49)).frozen (cell_ltk zC0) (fun h => h)).trans gC0
          have g1 := ((Keeps.one wr (.cells #[.string fx, .int .i64 fl, .slice fa mp fc, .int .i64 fr, .int .i64 fb] 49)).frozen (cell_ltk zC1) (fun h => h)).trans gC1
          go_wp2_with fail
          (try simp only [Exit.inBlock, Exit.then])
          refine bodyPost_ret (v := .tuple #[.agg #[.slice none 0 0, .slice none 0 0], .int .i64 0, .int .i64 4]) ?_ rfl ?_
          ·rw [results_cell_tmp3 rfl]
           go_simp
          exact ⟨treeE_inl (p := 0) (er := 4) (by rw [HTP.out, HB4.out]; rfl) _, HKF.out _ (Keeps.one wr _) _ _⟩
         ·have h3p : ¬ (3 : Int) < (mp : Int) := by omega
          have h3q : decide ((3 : Int) < (mp : Int)) = false := decide_eq_false h3p
          have H3 := Lib.hid h3
          clear h3
          go_wp2_with fail
          go_roundg (gk - 1)
          case measure => go_light; have h1 := HIK.out; have h2 := HIN.out; omega
          case rel => exact ⟨i + 1, by go_num, by have h1 := HIK.out; have h2 := HIN.out; go_light; omega, small_next HSM.out HL.out (by rw [← HMP.out]; exact H3.out), KR.out.trans (Keeps.one wr _) (fun _ _ h => h)⟩
        ·obtain rfl : i = n := by omega
         have hinI : ¬ (i : Int) < (i : Int) := by omega
         have hd2 : decide ((i : Int) < (i : Int)) = false := decide_eq_false hinI
         have HAny : Hid ((bg || (L.map FM.d).any (fun f => decide (3 < f.ps.length))) = false) := Lib.hid (by
          rw [HB0.out, Bool.false_or, List.any_eq_false]
          intro f hf
          obtain ⟨x, hx, rfl⟩ := List.mem_map.1 hf
          obtain ⟨j, hj, rfl⟩ := List.getElem_of_mem hx
          have := HSM.out j hj (by rw [← HQR.out.hn] at hj; exact hj)
          simpa using this)
         clear hin hik
         go_wp2_with fail
         (try simp only [Exit.inBlock, Exit.then])
         refine bodyPost_ret (v := .tuple #[.agg #[.slice A5 m c5, .slice A9 i c9], .int .i64 0, .int .i64 0]) ?_ rfl ?_
         ·rw [results_cell_tmp3 rfl]
          go_simp
         have kz := HKF.out _ (Keeps.refl _ _) (.slice A5 m c5) (.slice A9 i c9)
         have kz2 : Keeps (fun b => b = C) w1 ((wr.setCell ⟨C, 0, none⟩ (.slice A5 m c5)).setCell ⟨C, 1, none⟩ (.slice A9 i c9)) := ((KR.out.mono (T := fun b => b = C) (fun _ _ h => h.elim)).setCell (p := ⟨C, 0, none⟩) (fun _ => rfl) _).setCell (p := ⟨C, 1, none⟩) (fun _ => rfl) _
         have htr6 := tree_of2 HP1.out HQ1.out HC5.out kz2 HXC1.out.out HCP.out
         exact ⟨treeE_inr (by rw [HTP.out, HAny.out]; rfl) HM.out HLN.out.symm htr6 (cap_of2 HP1.out HC5.out kz2 HXC1.out.out), kz⟩
    ·skip
     obtain rfl : b = true := by rw [hb, decide_eq_false hk]; rfl
     have hkn : ((tk.k : Int) != 0) = true := by simp; omega
     clear hk hb
     go_wp2_with fail
     refine NC.out.mono ?_
     rintro e w2 ⟨rfl, k1⟩
     have HP1 := Lib.hid (HP0.out.keep k1)
     have HF1 := Lib.hid (HF0.out.keeps k1)
     have HXC1 := Lib.hid (HXC0.out.keeps k1)
     have HQ1 := Lib.hid (HQ0.out.keeps k1)
     clear HP0 HF0 HXC0 HQ0 NC k1 
     have h := HA.out
     first | rw [if_pos rfl] at h | rw [if_pos trivial] at h
     obtain ⟨fa, s2, hm, h⟩ := bind_out h
     replace HA := Lib.hid h
     have HLT : Hid (∀ g, (Value.slice A9 n c9).ownBlock = some g → g < w2.heap.size) := Lib.hid (fun g hg => own_ltk HQ1.out.own hg)
     have HSZ : Hid (wP.heap.size ≤ w2.heap.size) := Lib.hid HF1.out.1.size
     have BC := Lib.hid (FN P _ _ _ _ _ hm HP1.out)
     clear h hm
     go_wp2_with fail
     refine BC.out.mono ?_
     rintro e w3 ⟨Af, cf, rfl, hof, R4, hp, hf, hbf⟩
     have HP2 := Lib.hid hp
     have HF2 := Lib.hid (HF1.out.trans hf)
     have HXC2 := Lib.hid (HXC1.out.keep hf)
     have HQ2 := Lib.hid (HQ1.out.keep hf)
     clear HP1 HF1 HXC1 HQ1 hp hf BC c4 hkn F0
     have HOF := Lib.hid hof
     have HBF := Lib.hid hbf
     obtain ⟨mf, hmf⟩ : ∃ mf, mf = fa.ps.length := ⟨_, rfl⟩
     rw [← hmf]
     have HMF := Lib.hid hmf
     obtain ⟨x, hx⟩ : ∃ x : FM, x = ⟨fa, Af, cf⟩ := ⟨_, rfl⟩
     have HXX := Lib.hid hx
     have HXE : Hid (x.cells = [.string (ofL fa.s), .int .i64 fa.ln, .slice Af mf cf, .int .i64 fa.ret, .int .i64 fa.body]) := Lib.hid (by rw [hx, hmf]; rfl)
     clear hof hbf hmf hx
     go_wp2_with (at_builtin; refine wpList_append_atk rfl (.tmp 37) (.tmp 39) 25 rfl 0 49 io _ 5 64 Tryz.underlying25 hio hf0 hf1 hf2 (by rfl) (by omega) (.slice A9 n c9) n (flatF L) (by rfl) (ownsRow_keep HQ2.out.own (fun g hg => (Keeps.one w3 _).block g (own_ltk HQ2.out.own hg) (fun h => h))) ⟨w3.heap.size, 0, none⟩ 1 1 x.cells (by rfl) (by rw [HXE.out]; rfl) (by have e := HXE.out; have hh := newsG (w := w3) x.cells 49; rw [e] at hh ⊢; exact hh) (FM.one x) (by omega) (by omega) (Nat.zero_le _) ?_; intro v5 w5 h5 g5 b5; obtain ⟨A5, c5, rfl⟩ := own_formk h5; have hsz2 := HF2.out.1.size; have hq := HQ2.out.more HP2.out.lt hsz2 (Keeps.one w3 (.cells #[.string (ofL fa.s), .int .i64 fa.ln, .slice Af mf cf, .int .i64 fa.ret, .int .i64 fa.body] 49)) x (by rw [HXX.out]; exact (own_rdG HOF.out).keep (Keeps.one w3 _) (fun _ _ _ _ h => h)) (by rw [HXX.out]; exact fn_out HOF.out HBF.out HLT.out HSZ.out) h5 g5 b5; have hmm := own_more HP2.out HF2.out HPP.out HQ2.out.blk (Keeps.one w3 (.cells #[.string (ofL fa.s), .int .i64 fa.ln, .slice Af mf cf, .int .i64 fa.ret, .int .i64 fa.body] 49)) g5 b5; have HP3 := Lib.hid hmm.1; have HF3 := Lib.hid hmm.2.1; have HQ3 := Lib.hid hq; have HXC3 := Lib.hid (HXC2.out.keepsR hmm.2.2.2 (fun hv => absurd (HQ2.out.blk _ hv).2 (Nat.not_le.2 HCP.out))); clear hmm h5 g5 b5 hq hsz2 HP2 HF2 HQ2 HXC2)
     go_roundg k
     case measure => omega
     case rel => exact ⟨L ++ [x], _, n + 1, _, _, _, rfl, by have := HNK.out; omega, by rw [List.map_append, show [x].map FM.d = [fa] by rw [HXX.out]; rfl]; exact HA.out, HP3.out, HF3.out, HXC3.out, HQ3.out⟩
   ·skip
    have HER := Lib.hid he
    have heI : ¬ (sk.er : Int) = 0 := by omega
    have hd : ((sk.er : Int) == 0) = false := by simpa using heI
    obtain rfl : b = false := by rw [hb, decide_eq_false he]; rfl
    clear hb he NC
    have h := HA.out
    rw [if_neg (by decide)] at h
    obtain ⟨q1, q2⟩ := pure_end h
    subst q1
    subst q2
    clear HA h
    have c3 := HP0.out.see.c3
    have HTP : Hid (res = .inl (sF.pl, sF.er)) := Lib.hid (by rw [← HR.out]; unfold treeP; rw [if_neg HER.out])
    have hdn : ((sF.er : Int) != 0) = true := by have := HER.out; simp; omega
    generalize hpl : (sF.pl : Int) = pl at c3
    have HPL := Lib.hid hpl
    generalize her : (sF.er : Int) = er at c4 hd hdn heI
    have HEI := Lib.hid her
    clear hpl her
    have zC0 := HXC0.out.cells 0 _ rfl
    have zC1 := HXC0.out.cells 1 _ rfl
    have gC0 := HXC0.out.fz 0
    have gC1 := HXC0.out.fz 1
    go_upto_region 9 with fail
    go_region
    all_goals go_wp2_with fail
    all_goals (try simp only [Exit.inBlock, Exit.then])
    all_goals refine bodyPost_ret (v := .tuple #[.agg #[.slice none 0 0, .slice none 0 0], .int .i64 pl, .int .i64 er]) ?_ rfl ?_
    all_goals first | (rw [results_cell_tmp3 rfl]; go_simp; done) | skip
    all_goals exact ⟨by rw [← HPL.out, ← HEI.out]; exact treeE_inl HTP.out _, (HKE.out _ _ HF0.out _ _).drew⟩
end Go.Proofs.YtbhpnioggpgbhaaGreatDoor

namespace Go.Proofs.YtbhpnioggpgbhaaGreatDoor
open Go Go.RowKit Go.Shelf
set_option linter.unusedVariables false
set_option linter.unusedSimpArgs false
/-- All, for any source, as far as the numbers of steps go. -/
theorem pall_any (s : ByteArray) (hs : s.size ≤ 1000) (N : Nat) (hN : N ≤ 100000) (res : (Nat × Nat) ⊕ (List Nd × List Fnc)) (h : allP N s.data.toList = some res) (w : World) (he : ErrW w) :
  Calls Tryz.prog 22 #[.string s] w fun e w' => TreeE 0 res e w' ∧ Keeps (fun _ => False) w w' := by
 unfold allP at h
 by_cases hb : 600 < s.size
 ·rw [if_pos (by rw [len_size]; exact hb)] at h
  obtain rfl := Option.some.inj h
  exact (pall_err s w 0 4 (by decide) (fun w1 k => all_big s hb hs w1 (he.keep k))).mono fun e w' ⟨h1, h2⟩ => ⟨h1, h2⟩
 ·rw [if_neg (by rw [len_size]; exact hb)] at h
  cases hl : (lexL s.data.toList 0).2 with
  | some pe =>
   rw [hl] at h
   obtain rfl := Option.some.inj h
   obtain ⟨p, er⟩ := pe
   have her := lexL_cut s.data.toList 0 p er hl
   exact (pall_err s w p er (by omega) (fun w1 k => all_bad s (by omega) p er hl w1 (he.keep k))).mono fun e w' ⟨h1, h2⟩ => ⟨h1, h2⟩
  | none =>
   rw [hl] at h
   exact pall_ok s (by omega) N hN res hl h w he (fun P => function_any (by omega) hN (block_any (by omega) hN (st_any (by omega) hN N)))
end Go.Proofs.YtbhpnioggpgbhaaGreatDoor

namespace Go.Proofs.YtbhpnioggpgbhaaGreatDoor
open Go Go.RowKit Go.Shelf
set_option linter.unusedVariables false
set_option linter.unusedSimpArgs false
/-- The nodes of a tree, one by one. -/
theorem TreeR.nodeAt {B : Nat} {w : World} {A A' : Option Addr} {nd : List Nd} {fs : List Fnc} (h : TreeR B w A A' nd fs) (h0 : 0 < nd.length) : ∃ b off, A = some ⟨b, off, none⟩ ∧ ∀ i (hi : i < nd.length), ∃ a c,
  w.cell? ⟨b, off + i * 5, none⟩ = some (.int .i64 (nd[i]).k) ∧ w.cell? ⟨b, off + i * 5 + 1, none⟩ = some (.int .i64 (nd[i]).ln) ∧ w.cell? ⟨b, off + i * 5 + 2, none⟩ = some (.int .i64 (nd[i]).n) ∧
  w.cell? ⟨b, off + i * 5 + 3, none⟩ = some (.string (ofL (nd[i]).s)) ∧ w.cell? ⟨b, off + i * 5 + 4, none⟩ = some (.slice a (nd[i]).l.length c) ∧ RdI w a (nd[i]).l := by
 obtain ⟨L, rfl, hr, hl⟩ := h.nodes
 rw [List.length_map] at h0
 obtain ⟨b, off, e, hc⟩ := hr (by rw [flatN_length]; omega)
 refine ⟨b, off, e, fun i hi => ?_⟩
 rw [List.length_map] at hi
 have hcc : ∀ j u, (L[i]).cells[j]? = some u → j < 5 → w.cell? ⟨b, off + i * 5 + j, none⟩ = some u := fun j u hu hj => by
  rw [Nat.add_assoc]
  exact hc (i * 5 + j) u (by rw [flatN_at L i j hi hj]; exact hu)
 simp only [List.getElem_map]
 exact ⟨(L[i]).a, (L[i]).c, hcc 0 _ rfl (by omega), hcc 1 _ rfl (by omega), hcc 2 _ rfl (by omega), hcc 3 _ rfl (by omega), hcc 4 _ rfl (by omega), hl _ (List.getElem_mem hi)⟩
/-- The functions of a tree, one by one. -/
theorem TreeR.fnAt {B : Nat} {w : World} {A A' : Option Addr} {nd : List Nd} {fs : List Fnc} (h : TreeR B w A A' nd fs) (h0 : 0 < fs.length) : ∃ b off, A' = some ⟨b, off, none⟩ ∧ ∀ i (hi : i < fs.length), ∃ a c,
  w.cell? ⟨b, off + i * 5, none⟩ = some (.string (ofL (fs[i]).s)) ∧ w.cell? ⟨b, off + i * 5 + 1, none⟩ = some (.int .i64 (fs[i]).ln) ∧ w.cell? ⟨b, off + i * 5 + 2, none⟩ = some (.slice a (fs[i]).ps.length c) ∧
  w.cell? ⟨b, off + i * 5 + 3, none⟩ = some (.int .i64 (fs[i]).ret) ∧ w.cell? ⟨b, off + i * 5 + 4, none⟩ = some (.int .i64 (fs[i]).body) ∧ RdG w a (flatP (fs[i]).ps) := by
 obtain ⟨L, rfl, hr, hl⟩ := h.fns
 rw [List.length_map] at h0
 obtain ⟨b, off, e, hc⟩ := hr (by rw [flatF_length]; omega)
 refine ⟨b, off, e, fun i hi => ?_⟩
 rw [List.length_map] at hi
 have hcc : ∀ j u, (L[i]).cells[j]? = some u → j < 5 → w.cell? ⟨b, off + i * 5 + j, none⟩ = some u := fun j u hu hj => by
  rw [Nat.add_assoc]
  exact hc (i * 5 + j) u (by rw [flatF_at L i j hi hj]; exact hu)
 simp only [List.getElem_map]
 exact ⟨(L[i]).a, (L[i]).c, hcc 0 _ rfl (by omega), hcc 1 _ rfl (by omega), hcc 2 _ rfl (by omega), hcc 3 _ rfl (by omega), hcc 4 _ rfl (by omega), hl _ (List.getElem_mem hi)⟩
end Go.Proofs.YtbhpnioggpgbhaaGreatDoor

namespace Go.Proofs.YtbhpnioggpgbhaaGreatDoor
open Go Go.RowKit Go.Shelf
set_option linter.unusedVariables false
set_option linter.unusedSimpArgs false
/-- A node in memory. -/
structure NodeR (w : World) (b o : Nat) (k n : Int) (s : List UInt8) (l : List Int) (ln : Int) (a : Option Addr) (c : Nat) : Prop where
 c0 : w.cell? ⟨b, o, none⟩ = some (.int .i64 k)
 c1 : w.cell? ⟨b, o + 1, none⟩ = some (.int .i64 ln)
 c2 : w.cell? ⟨b, o + 2, none⟩ = some (.int .i64 n)
 c3 : w.cell? ⟨b, o + 3, none⟩ = some (.string (ofL s))
 c4 : w.cell? ⟨b, o + 4, none⟩ = some (.slice a l.length c)
 ro : RdI w a l
theorem TreeR.node {B : Nat} {w : World} {A A' : Option Addr} {nd : List Nd} {fs : List Fnc} (h : TreeR B w A A' nd fs) {i k n : Int} {s : List UInt8} {l : List Int} (ha : At nd i k n s l) :
  ∃ (j b off : Nat) (ln : Int) (a : Option Addr) (c : Nat), i = (j : Int) ∧ j < nd.length ∧ A = some ⟨b, off, none⟩ ∧ NodeR w b (off + j * 5) k n s l ln a c := by
 obtain ⟨j, ln, h1, h2⟩ := ha
 obtain ⟨hj, h3⟩ := List.getElem?_eq_some_iff.1 h2
 obtain ⟨b, off, hA, hc⟩ := h.nodeAt (by omega)
 obtain ⟨a, c, c0, c1, c2, c3, c4, c5⟩ := hc j hj
 rw [h3] at c0 c1 c2 c3 c4 c5
 exact ⟨j, b, off, ln, a, c, h1, hj, hA, ⟨c0, c1, c2, c3, c4, c5⟩⟩
theorem RdI.get {w : World} {a : Option Addr} {l : List Int} (h : RdI w a l) {k : Nat} (hk : k < l.length) {x : Int} (hx : l[k]? = some x) : ∃ b off, a = some ⟨b, off, none⟩ ∧ w.cell? ⟨b, off + k, none⟩ = some (.int .i64 x) := by
 obtain ⟨b, off, e, hc⟩ := h (by omega)
 refine ⟨b, off, e, ?_⟩
 rw [hc k hk, List.getD, hx]
 rfl
end Go.Proofs.YtbhpnioggpgbhaaGreatDoor
