/-
  Layer 16: the walk of EditsOrder. Written by an AI agent.
-/
import Derived.Test.YtpighdioomjnmabEdK
import Derived.Test.YtpighdioomjnmabEdP
import Derived.Deep.RegionHeld3
import Derived.BigQuiet
namespace Go.Proofs.Ytpighdioomjnmab
open Go.RowKit Go.Shelf
set_option linter.unusedVariables false
set_option linter.unusedSimpArgs false

theorem RdE.cellsAt {w : World} {A : Option Addr} {L : List Ed} (h : RdE w A L) {i : Nat} (hi : i < L.length) : ∃ b off, A = some ⟨b, off, none⟩ ∧ ∀ wq, Keeps (fun _ => False) w wq →
    wq.cell? ⟨b, off + i * 5, none⟩ = some (.int .i64 (L.getD i default).t) ∧ wq.cell? ⟨b, off + i * 5 + 1, none⟩ = some (.string (L.getD i default).nm) ∧ wq.cell? ⟨b, off + i * 5 + 2, none⟩ = some (.int .i64 (L.getD i default).ty) ∧
    wq.cell? ⟨b, off + i * 5 + 3, none⟩ = some (.int .i64 (L.getD i default).n) ∧ wq.cell? ⟨b, off + i * 5 + 4, none⟩ = some (.string (L.getD i default).s) := by
  obtain ⟨b, off, e, hc⟩ := h (by omega)
  obtain ⟨c0, c1, c2, c3, c4⟩ := hc i hi
  have hb := cell_ltk c0
  exact ⟨b, off, e, fun wq k => ⟨(k.cell hb (fun h => h)).trans c0, (k.cell hb (fun h => h)).trans c1, (k.cell hb (fun h => h)).trans c2, (k.cell hb (fun h => h)).trans c3, (k.cell hb (fun h => h)).trans c4⟩⟩

theorem drew_keeps (w : World) (n : Nat) : Keeps (fun _ => False) w (w.drewN n) := ⟨rfl, rfl, rfl, Nat.le_refl _, fun _ _ _ => rfl⟩

set_option maxRecDepth 100000 in
set_option maxHeartbeats 8000000 in
theorem order_walk16 (A : Option Addr) (c : Nat) (L : List Ed) (C : Option Addr) (d : Nat) (M : List Ed) (D : Option Addr) (f : Nat) (N : List Ed) (t : Int) (w : World) (hA : RdE w A L) (hL : L.length ≤ 9223372036854775807) (hC : RdE w C M) (hM : M.length ≤ 9223372036854775807) (hD : RdE w D N) (hN : N.length ≤ 9223372036854775807) :
    Calls Try.prog 8 #[.slice A L.length c, .slice C M.length d, .agg #[.slice D N.length f, .int .i64 t]] w fun e w' => e = .returned (.bool true) ∧ Below w.heap.size w w' := by
  obtain ⟨w0, hw0⟩ : ∃ w0 : World, w0 = w.alloc (.cells #[.slice D N.length f, .int .i64 t] 56) := ⟨_, rfl⟩
  have kw0 : Keeps (fun _ => False) w w0 := by rw [hw0]; exact (Keeps.refl _ _).alloc _
  have sw0 : w0.heap.size = w.heap.size + 1 := by rw [hw0]; simp
  have F1 : Hid (∀ w1, Keeps (fun _ => False) w0 w1 → Calls Try.prog 23 #[.slice A L.length c] w1 (NewE (fewE L) w1)) := fun w1 h => few_any w1 A c L ((hA.keep kw0).keep h) hL
  have F2 : Hid (∀ w1, Keeps (fun _ => False) w0 w1 → Calls Try.prog 23 #[.slice C M.length d] w1 (NewE (fewE M) w1)) := fun w1 h => few_any w1 C d M ((hC.keep kw0).keep h) hM
  have F3 : Hid (∀ w1, Keeps (fun _ => False) w0 w1 → Calls Try.prog 23 #[.slice D N.length f] w1 (NewE (fewE N) w1)) := fun w1 h => few_any w1 D f N ((hD.keep kw0).keep h) hN
  obtain ⟨l, hl⟩ : ∃ l : Nat, l = L.length := ⟨_, rfl⟩
  obtain ⟨m, hm⟩ : ∃ m : Nat, m = M.length := ⟨_, rfl⟩
  obtain ⟨o, ho⟩ : ∃ o : Nat, o = N.length := ⟨_, rfl⟩
  rw [← hl] at F1 ⊢
  rw [← hm] at F2 ⊢
  rw [← ho] at F3 hw0 ⊢
  have hbox : ∀ wq, Keeps (fun _ => False) w0 wq → wq.cell? ⟨w.heap.size, 0, none⟩ = some (.slice D o f) ∧ wq.cell? ⟨w.heap.size, 1, none⟩ = some (.int .i64 t) := fun wq hq => by
    have hl : w.heap.size < w0.heap.size := by omega
    refine ⟨(hq.cell hl (fun h => h)).trans ?_, (hq.cell hl (fun h => h)).trans ?_⟩ <;> (rw [hw0]; simp)
  have HBox := Lib.hid hbox
  clear hbox hA hL hC hM hD hN hl hm ho
  obtain ⟨lF, ElF⟩ : ∃ X : List Ed, X = fewE L := ⟨_, rfl⟩
  have BlF : lF.length ≤ 10 := by
    have e := ElF
    exact by rw [e]; exact fewE_length L
  obtain ⟨lG, ElG⟩ : ∃ X : List Ed, X = fewE M := ⟨_, rfl⟩
  have BlG : lG.length ≤ 10 := by
    have e := ElG
    exact by rw [e]; exact fewE_length M
  obtain ⟨lH, ElH⟩ : ∃ X : List Ed, X = fewE N := ⟨_, rfl⟩
  have BlH : lH.length ≤ 10 := by
    have e := ElH
    exact by rw [e]; exact fewE_length N
  obtain ⟨la, Ela⟩ : ∃ X : List Ed, X = mergeE [] lF := ⟨_, rfl⟩
  have Bla : la.length ≤ 10 := by
    have e := Ela
    exact by rw [e, mergeE_length]; simp only [List.length_nil]; omega
  obtain ⟨lb, Elb⟩ : ∃ X : List Ed, X = mergeE [] lG := ⟨_, rfl⟩
  have Blb : lb.length ≤ 10 := by
    have e := Elb
    exact by rw [e, mergeE_length]; simp only [List.length_nil]; omega
  obtain ⟨lc, Elc⟩ : ∃ X : List Ed, X = mergeE [] lH := ⟨_, rfl⟩
  have Blc : lc.length ≤ 10 := by
    have e := Elc
    exact by rw [e, mergeE_length]; simp only [List.length_nil]; omega
  obtain ⟨lm, Elm⟩ : ∃ X : List Ed, X = mergeE la lb := ⟨_, rfl⟩
  have Blm : lm.length ≤ 20 := by
    have e := Elm
    exact by rw [e, mergeE_length]; omega
  obtain ⟨ll, Ell⟩ : ∃ X : List Ed, X = mergeE lm lc := ⟨_, rfl⟩
  have Bll : ll.length ≤ 30 := by
    have e := Ell
    exact by rw [e, mergeE_length]; omega
  obtain ⟨lq, Elq⟩ : ∃ X : List Ed, X = mergeE lb lc := ⟨_, rfl⟩
  have Blq : lq.length ≤ 20 := by
    have e := Elq
    exact by rw [e, mergeE_length]; omega
  obtain ⟨lu, Elu⟩ : ∃ X : List Ed, X = uptoE la t := ⟨_, rfl⟩
  have Blu : lu.length ≤ 10 := by
    have e := Elu
    exact by rw [e]; exact Nat.le_trans (uptoE_le _ _) (by omega)
  obtain ⟨lv, Elv⟩ : ∃ X : List Ed, X = uptoE lb t := ⟨_, rfl⟩
  have Blv : lv.length ≤ 10 := by
    have e := Elv
    exact by rw [e]; exact Nat.le_trans (uptoE_le _ _) (by omega)
  obtain ⟨lx, Elx⟩ : ∃ X : List Ed, X = mergeE lu lv := ⟨_, rfl⟩
  have Blx : lx.length ≤ 20 := by
    have e := Elx
    exact by rw [e, mergeE_length]; omega
  rw [← ElF] at F1
  rw [← ElG] at F2
  rw [← ElH] at F3
  have hsa : SortE la := by rw [Ela]; exact sort_merge _ sort_nil
  have hsb : SortE lb := by rw [Elb]; exact sort_merge _ sort_nil
  have hsc : SortE lc := by rw [Elc]; exact sort_merge _ sort_nil
  have hsm : SortE lm := by rw [Elm]; exact sort_merge _ hsa
  have hml : lm.length = la.length + lb.length := by rw [Elm, mergeE_length]
  have hrgt : mergeE la lq = ll := by rw [Ell, Elm, Elq]; exact (merge_assoc la lb lc hsb hsc).symm
  have hcut : uptoE lm t = lx := by rw [Elx, Elu, Elv, Elm]; exact upto_merge la lb t hsa hsb
  have hmg : lm = mrgE la lb := by rw [Elm]; exact merge_mrg la lb hsb
  have hnil : mergeE la [] = la := rfl
  have HSa := Lib.hid (sortedE_of hsa)
  have HSm := Lib.hid (sortedE_of hsm)
  have HRgt := Lib.hid hrgt
  have HCut := Lib.hid hcut
  have HMg := Lib.hid hmg
  clear hsa hsb hsc hsm hrgt hcut hmg hnil
  obtain ⟨nF, hnF⟩ : ∃ k : Nat, k = lF.length := ⟨_, rfl⟩
  rw [← hnF] at BlF
  have XlF := Lib.hid ElF
  have LlF := Lib.hid hnF
  obtain ⟨nG, hnG⟩ : ∃ k : Nat, k = lG.length := ⟨_, rfl⟩
  rw [← hnG] at BlG
  have XlG := Lib.hid ElG
  have LlG := Lib.hid hnG
  obtain ⟨nH, hnH⟩ : ∃ k : Nat, k = lH.length := ⟨_, rfl⟩
  rw [← hnH] at BlH
  have XlH := Lib.hid ElH
  have LlH := Lib.hid hnH
  obtain ⟨na, hna⟩ : ∃ k : Nat, k = la.length := ⟨_, rfl⟩
  rw [← hna] at Bla hml
  have Xla := Lib.hid Ela
  have Lla := Lib.hid hna
  obtain ⟨nb, hnb⟩ : ∃ k : Nat, k = lb.length := ⟨_, rfl⟩
  rw [← hnb] at Blb hml
  have Xlb := Lib.hid Elb
  have Llb := Lib.hid hnb
  obtain ⟨nc, hnc⟩ : ∃ k : Nat, k = lc.length := ⟨_, rfl⟩
  rw [← hnc] at Blc
  have Xlc := Lib.hid Elc
  have Llc := Lib.hid hnc
  obtain ⟨nm, hnm⟩ : ∃ k : Nat, k = lm.length := ⟨_, rfl⟩
  rw [← hnm] at Blm hml
  have Xlm := Lib.hid Elm
  have Llm := Lib.hid hnm
  obtain ⟨nl, hnl⟩ : ∃ k : Nat, k = ll.length := ⟨_, rfl⟩
  rw [← hnl] at Bll
  have Xll := Lib.hid Ell
  have Lll := Lib.hid hnl
  obtain ⟨nq, hnq⟩ : ∃ k : Nat, k = lq.length := ⟨_, rfl⟩
  rw [← hnq] at Blq
  have Xlq := Lib.hid Elq
  have Llq := Lib.hid hnq
  obtain ⟨nu, hnu⟩ : ∃ k : Nat, k = lu.length := ⟨_, rfl⟩
  rw [← hnu] at Blu
  have Xlu := Lib.hid Elu
  have Llu := Lib.hid hnu
  obtain ⟨nv, hnv⟩ : ∃ k : Nat, k = lv.length := ⟨_, rfl⟩
  rw [← hnv] at Blv
  have Xlv := Lib.hid Elv
  have Llv := Lib.hid hnv
  obtain ⟨nx, hnx⟩ : ∃ k : Nat, k = lx.length := ⟨_, rfl⟩
  rw [← hnx] at Blx
  have Xlx := Lib.hid Elx
  have Llx := Lib.hid hnx
  have HML := Lib.hid hml
  clear hml ElF hnF ElG hnG ElH hnH Ela hna Elb hnb Elc hnc Elm hnm Ell hnl Elq hnq Elu hnu Elv hnv Elx hnx
  have SC := Lib.hid (shown16 w0)
  have KW := Lib.hid kw0
  clear kw0 sw0
  go_enter Try.func8, Try.ntmps8
  go_wp2_with fail
  rw [← hw0]
  clear hw0
  refine SC.out.mono ?_
  rintro e w1 ⟨rfl, k1⟩
  have K1 := Lib.hid k1
  clear k1 SC
  have CQ := Lib.hid (F1.out w1 K1.out)
  go_wp2_with fail
  refine CQ.out.mono ?_
  rintro e w2 ⟨AlF, clF, rfl, or', br', kr'⟩
  rw [← LlF.out] at or' ⊢
  have RlF := Lib.hid (own_rdE or' LlF.out)
  have ZlF := Lib.hid (own_none or')
  have K2 := Lib.hid (K1.out.trans kr' (fun _ _ h => h))
  clear or' br' kr' CQ
  have CQ : Hid (Calls Try.prog 29 #[.slice none 0 0, .slice AlF nF clF] w2 (NewE la w2)) := by
    rw [LlF.out, Xla.out]
    exact insert_any w2 none 0 [] (fun h => absurd h (Nat.lt_irrefl _)) (fun _ => rfl) AlF clF lF RlF.out (by rw [← LlF.out]; simp only [List.length_nil]; omega)
  go_wp2_with fail
  refine CQ.out.mono ?_
  rintro e w3 ⟨Ala, cla, rfl, or', br', kr'⟩
  rw [← Lla.out] at or' ⊢
  have Rla := Lib.hid (own_rdE or' Lla.out)
  have Zla := Lib.hid (own_none or')
  have RlF := Lib.hid (RlF.out.keep kr')
  have K3 := Lib.hid (K2.out.trans kr' (fun _ _ h => h))
  clear or' br' kr' CQ
  clear RlF
  have CQ := Lib.hid (F2.out w3 K3.out)
  go_wp2_with fail
  refine CQ.out.mono ?_
  rintro e w4 ⟨AlG, clG, rfl, or', br', kr'⟩
  rw [← LlG.out] at or' ⊢
  have RlG := Lib.hid (own_rdE or' LlG.out)
  have ZlG := Lib.hid (own_none or')
  have Rla := Lib.hid (Rla.out.keep kr')
  have K4 := Lib.hid (K3.out.trans kr' (fun _ _ h => h))
  clear or' br' kr' CQ
  have CQ : Hid (Calls Try.prog 29 #[.slice none 0 0, .slice AlG nG clG] w4 (NewE lb w4)) := by
    rw [LlG.out, Xlb.out]
    exact insert_any w4 none 0 [] (fun h => absurd h (Nat.lt_irrefl _)) (fun _ => rfl) AlG clG lG RlG.out (by rw [← LlG.out]; simp only [List.length_nil]; omega)
  go_wp2_with fail
  refine CQ.out.mono ?_
  rintro e w5 ⟨Alb, clb, rfl, or', br', kr'⟩
  rw [← Llb.out] at or' ⊢
  have Rlb := Lib.hid (own_rdE or' Llb.out)
  have Zlb := Lib.hid (own_none or')
  have Rla := Lib.hid (Rla.out.keep kr')
  have RlG := Lib.hid (RlG.out.keep kr')
  have K5 := Lib.hid (K4.out.trans kr' (fun _ _ h => h))
  clear or' br' kr' CQ
  clear RlG
  have CQ := Lib.hid (F3.out w5 K5.out)
  obtain ⟨z0, z1⟩ := HBox.out w5 K5.out
  go_wp2_with fail
  refine CQ.out.mono ?_
  rintro e w6 ⟨AlH, clH, rfl, or', br', kr'⟩
  rw [← LlH.out] at or' ⊢
  have RlH := Lib.hid (own_rdE or' LlH.out)
  have ZlH := Lib.hid (own_none or')
  have Rla := Lib.hid (Rla.out.keep kr')
  have Rlb := Lib.hid (Rlb.out.keep kr')
  have K6 := Lib.hid (K5.out.trans kr' (fun _ _ h => h))
  clear or' br' kr' CQ
  clear z0 z1
  have CQ : Hid (Calls Try.prog 29 #[.slice none 0 0, .slice AlH nH clH] w6 (NewE lc w6)) := by
    rw [LlH.out, Xlc.out]
    exact insert_any w6 none 0 [] (fun h => absurd h (Nat.lt_irrefl _)) (fun _ => rfl) AlH clH lH RlH.out (by rw [← LlH.out]; simp only [List.length_nil]; omega)
  go_wp2_with fail
  refine CQ.out.mono ?_
  rintro e w7 ⟨Alc, clc, rfl, or', br', kr'⟩
  rw [← Llc.out] at or' ⊢
  have Rlc := Lib.hid (own_rdE or' Llc.out)
  have Zlc := Lib.hid (own_none or')
  have Rla := Lib.hid (Rla.out.keep kr')
  have Rlb := Lib.hid (Rlb.out.keep kr')
  have RlH := Lib.hid (RlH.out.keep kr')
  have K7 := Lib.hid (K6.out.trans kr' (fun _ _ h => h))
  clear or' br' kr' CQ
  clear RlH F1 F2 F3
  have CQ : Hid (Calls Try.prog 28 #[.slice Ala na cla, .slice Alb nb clb] w7 (NewE lm w7)) := by
    rw [Lla.out, Llb.out, Xlm.out]
    exact merge_any w7 Ala cla la Rla.out (by rw [← Lla.out]; exact Zla.out) Alb clb lb Rlb.out (by rw [← Lla.out, ← Llb.out]; omega)
  go_wp2_with fail
  refine CQ.out.mono ?_
  rintro e w8 ⟨Alm, clm, rfl, or', br', kr'⟩
  rw [← Llm.out] at or' ⊢
  have Rlm := Lib.hid (own_rdE or' Llm.out)
  have Zlm := Lib.hid (own_none or')
  have Rla := Lib.hid (Rla.out.keep kr')
  have Rlb := Lib.hid (Rlb.out.keep kr')
  have Rlc := Lib.hid (Rlc.out.keep kr')
  have K8 := Lib.hid (K7.out.trans kr' (fun _ _ h => h))
  clear or' br' kr' CQ
  have CQ : Hid (Calls Try.prog 32 #[.slice Ala na cla] w8 fun e w' => e = .returned (.bool true) ∧ Keeps (fun _ => False) w8 w') := by
    rw [Lla.out]
    exact sorted_any w8 Ala cla la Rla.out (by rw [← Lla.out]; omega) HSa.out
  go_wp2_with fail
  refine CQ.out.mono ?_
  rintro e w9 ⟨rfl, kr'⟩
  have Rla := Lib.hid (Rla.out.keep kr')
  have Rlb := Lib.hid (Rlb.out.keep kr')
  have Rlc := Lib.hid (Rlc.out.keep kr')
  have Rlm := Lib.hid (Rlm.out.keep kr')
  have K9 := Lib.hid (K8.out.trans kr' (fun _ _ h => h))
  clear kr' CQ
  have CQ : Hid (Calls Try.prog 32 #[.slice Alm nm clm] w9 fun e w' => e = .returned (.bool true) ∧ Keeps (fun _ => False) w9 w') := by
    rw [Llm.out]
    exact sorted_any w9 Alm clm lm Rlm.out (by rw [← Llm.out]; omega) HSm.out
  go_wp2_with fail
  refine CQ.out.mono ?_
  rintro e w10 ⟨rfl, kr'⟩
  have Rla := Lib.hid (Rla.out.keep kr')
  have Rlb := Lib.hid (Rlb.out.keep kr')
  have Rlc := Lib.hid (Rlc.out.keep kr')
  have Rlm := Lib.hid (Rlm.out.keep kr')
  have K10 := Lib.hid (K9.out.trans kr' (fun _ _ h => h))
  clear kr' CQ
  have hsq : ((nm : Int) == (na : Int) + (nb : Int)) = true := by have := HML.out; simp; omega
  have hsn : ((nm : Int) != (na : Int) + (nb : Int)) = false := by have := HML.out; simp; omega
  go_wp2_with fail
  go_loopw [10, 11, 12] (fun s10 s11 s12 wr => ∃ i k : Nat, i ≤ na ∧ k ≤ nb ∧ s10 = .int .i64 i ∧ s11 = .int .i64 k ∧ s12 = .int .i64 ((i + k : Nat) : Int) ∧ lm.drop (i + k) = mrgE (la.drop i) (lb.drop k) ∧ Keeps (fun _ => False) w10 wr) (fun _ _ s12 _ => nm - (intOf s12).toNat)
  case atStart => exact ⟨0, 0, Nat.zero_le _, Nat.zero_le _, rfl, rfl, rfl, by rw [HMg.out]; rfl, Keeps.refl _ _⟩
  case round =>
    obtain ⟨i, k, hi, hk, rfl, rfl, rfl, hdr, kr⟩ := hrel
    obtain ⟨j, hj⟩ : ∃ j : Nat, j = i + k := ⟨_, rfl⟩
    rw [← hj] at hdr ⊢
    have HJ := Lib.hid hj
    clear hj
    by_cases hjm : j < nm
    · have hjm' : (j : Int) < (nm : Int) := by omega
      have hj0 : (0 : Int) ≤ (j : Int) := by omega
      have hi0 : (0 : Int) ≤ (i : Int) := by omega
      have hk0 : (0 : Int) ≤ (k : Int) := by omega
      obtain ⟨gm, om, rfl, hcm⟩ := (Rlm.out.keep kr).cellsAt (i := j) (by rw [← Llm.out]; exact hjm)
      rw [HMg.out] at hdr
      have HDR := Lib.hid hdr
      have KR := Lib.hid kr
      obtain ⟨y, hy⟩ : ∃ y : Ed, y = lm.getD j default := ⟨_, rfl⟩
      rw [← hy] at hcm
      obtain ⟨yt, ynm, yty, yn, ys⟩ := y
      have HCm := Lib.hid hcm
      have HY := Lib.hid hy
      have hgu := guard49
      have hq0 := neq49 ⟨yt, ynm, yty, yn, ys⟩ ⟨yt, ynm, yty, yn, ys⟩
      rw [(sameB_iff ⟨yt, ynm, yty, yn, ys⟩ ⟨yt, ynm, yty, yn, ys⟩).2 rfl] at hq0
      unfold Ed.agg at hq0
      have hq : ∀ w : World, (binOp .neq 49 (.agg #[.int .i64 yt, .string ynm, .int .i64 yty, .int .i64 yn, .string ys]) (.agg #[.int .i64 yt, .string ynm, .int .i64 yty, .int .i64 yn, .string ys])).run Try.prog w = .ok (.bool false) w := hq0
      clear hdr kr hcm hy hq0
      by_cases hia : i < na
      · have hia' : (i : Int) < (na : Int) := by omega
        obtain ⟨ga, oa, rfl, hca⟩ := (Rla.out.keep KR.out).cellsAt (i := i) (by rw [← Lla.out]; exact hia)
        by_cases hkb : k < nb
        · have hkb' : ¬ (nb : Int) ≤ (k : Int) := by omega
          have hkb2 : (k : Int) < (nb : Int) := by omega
          have hdk : decide ((nb : Int) ≤ (k : Int)) = false := decide_eq_false hkb'
          obtain ⟨gb, ob, rfl, hcb⟩ := (Rlb.out.keep KR.out).cellsAt (i := k) (by rw [← Llb.out]; exact hkb)
          by_cases hle : (la.getD i default).t ≤ (lb.getD k default).t
          · have hw := walk_left HDR.out (by rw [← Lla.out]; exact hia) (.inr ⟨by rw [← Llb.out]; exact hkb, hle⟩)
            obtain ⟨z, hz⟩ : ∃ z : Ed, z = lb.getD k default := ⟨_, rfl⟩
            rw [← hz] at hcb
            have hle2 : yt ≤ z.t := by
              have hdat : la.getD i default = ⟨yt, ynm, yty, yn, ys⟩ := hw.2.1.symm.trans (by rw [← HMg.out]; exact HY.out.symm)
              rw [hdat, ← hz] at hle
              exact hle
            have HCb := Lib.hid hcb
            obtain ⟨zt, znm, zty, zn, zs⟩ := z
            have hle3 : yt ≤ zt := hle2
            have hd : decide (yt ≤ zt) = true := decide_eq_true hle3
            clear hz hcb hle hle2
            have hdat : la.getD i default = ⟨yt, ynm, yty, yn, ys⟩ := hw.2.1.symm.trans (by rw [← HMg.out]; exact HY.out.symm)
            rw [hdat] at hca
            have HCa := Lib.hid hca
            have HN := Lib.hid hw.2.2
            clear hw hca hdat
            obtain ⟨a0, _, _, _, _⟩ := HCa.out wr (Keeps.refl _ _)
            obtain ⟨b0, _, _, _, _⟩ := HCb.out wr (Keeps.refl _ _)
            go_wp2_with fail
            go_quiet (fail)
            rename_i nq
            have kq := drew_keeps wr nq
            obtain ⟨wq, hwq⟩ : ∃ wq : World, wq = wr.drewN nq := ⟨_, rfl⟩
            rw [← hwq] at kq ⊢
            clear hwq a0 b0
            obtain ⟨a0, a1, a2, a3, a4⟩ := HCa.out wq kq
            obtain ⟨m0, m1, m2, m3, m4⟩ := HCm.out wq kq
            have KQ := Lib.hid (KR.out.trans kq (fun _ _ h => h))
            clear kq
            go_wp2_with fail
            go_quiet (fail)
            go_wp2
            go_roundw
            case rel => exact ⟨i + 1, k, by omega, by omega, by go_num, rfl, by rw [show i + 1 + k = j + 1 by have := HJ.out; omega]; go_num, by rw [show i + 1 + k = j + 1 by have := HJ.out; omega, HMg.out]; exact HN.out, KQ.out.trans (drew_keeps _ _) (fun _ _ h => h)⟩
            case measure => simp [intOf]; omega
          · have hw := walk_right HDR.out (by rw [← Llb.out]; exact hkb) (.inr ⟨by rw [← Lla.out]; exact hia, hle⟩)
            obtain ⟨z, hz⟩ : ∃ z : Ed, z = la.getD i default := ⟨_, rfl⟩
            rw [← hz] at hca
            have hle2 : ¬ z.t ≤ yt := by
              have hdat : lb.getD k default = ⟨yt, ynm, yty, yn, ys⟩ := hw.2.1.symm.trans (by rw [← HMg.out]; exact HY.out.symm)
              rw [hdat, ← hz] at hle
              exact hle
            have HCa := Lib.hid hca
            obtain ⟨zt, znm, zty, zn, zs⟩ := z
            have hle3 : ¬ zt ≤ yt := hle2
            have hd : decide (zt ≤ yt) = false := decide_eq_false hle3
            clear hz hca hle hle2
            have hdat : lb.getD k default = ⟨yt, ynm, yty, yn, ys⟩ := hw.2.1.symm.trans (by rw [← HMg.out]; exact HY.out.symm)
            rw [hdat] at hcb
            have HCb := Lib.hid hcb
            have HN := Lib.hid hw.2.2
            clear hw hcb hdat
            obtain ⟨b0, _, _, _, _⟩ := HCb.out wr (Keeps.refl _ _)
            obtain ⟨a0, _, _, _, _⟩ := HCa.out wr (Keeps.refl _ _)
            go_wp2_with fail
            go_quiet (fail)
            rename_i nq
            have kq := drew_keeps wr nq
            obtain ⟨wq, hwq⟩ : ∃ wq : World, wq = wr.drewN nq := ⟨_, rfl⟩
            rw [← hwq] at kq ⊢
            clear hwq b0 a0
            obtain ⟨b0, b1, b2, b3, b4⟩ := HCb.out wq kq
            obtain ⟨m0, m1, m2, m3, m4⟩ := HCm.out wq kq
            have KQ := Lib.hid (KR.out.trans kq (fun _ _ h => h))
            clear kq
            go_wp2_with fail
            go_quiet (fail)
            go_wp2
            go_roundw
            case rel => exact ⟨i, k + 1, by omega, by omega, rfl, by go_num, by rw [show i + (k + 1) = j + 1 by have := HJ.out; omega]; go_num, by rw [show i + (k + 1) = j + 1 by have := HJ.out; omega, HMg.out]; exact HN.out, KQ.out.trans (drew_keeps _ _) (fun _ _ h => h)⟩
            case measure => simp [intOf]; omega
        · have hkb' : (nb : Int) ≤ (k : Int) := by omega
          have hdk : decide ((nb : Int) ≤ (k : Int)) = true := decide_eq_true hkb'
          have hw := walk_left HDR.out (by rw [← Lla.out]; exact hia) (.inl (by rw [← Llb.out]; omega))
          have hdat : la.getD i default = ⟨yt, ynm, yty, yn, ys⟩ := hw.2.1.symm.trans (by rw [← HMg.out]; exact HY.out.symm)
          rw [hdat] at hca
          have HCa := Lib.hid hca
          have HN := Lib.hid hw.2.2
          clear hw hca hdat
          obtain ⟨a0, _, _, _, _⟩ := HCa.out wr (Keeps.refl _ _)
          go_wp2_with fail
          go_quiet (fail)
          rename_i nq
          have kq := drew_keeps wr nq
          obtain ⟨wq, hwq⟩ : ∃ wq : World, wq = wr.drewN nq := ⟨_, rfl⟩
          rw [← hwq] at kq ⊢
          clear hwq a0
          obtain ⟨a0, a1, a2, a3, a4⟩ := HCa.out wq kq
          obtain ⟨m0, m1, m2, m3, m4⟩ := HCm.out wq kq
          have KQ := Lib.hid (KR.out.trans kq (fun _ _ h => h))
          clear kq
          go_wp2_with fail
          go_quiet (fail)
          go_wp2
          go_roundw
          case rel => exact ⟨i + 1, k, by omega, by omega, by go_num, rfl, by rw [show i + 1 + k = j + 1 by have := HJ.out; omega]; go_num, by rw [show i + 1 + k = j + 1 by have := HJ.out; omega, HMg.out]; exact HN.out, KQ.out.trans (drew_keeps _ _) (fun _ _ h => h)⟩
          case measure => simp [intOf]; omega
      · have hia' : ¬ (i : Int) < (na : Int) := by omega
        have hdi : decide ((i : Int) < (na : Int)) = false := decide_eq_false hia'
        have hkb : k < nb := by have := HML.out; have := HJ.out; omega
        have hkb' : ¬ (nb : Int) ≤ (k : Int) := by omega
        have hkb2 : (k : Int) < (nb : Int) := by omega
        have hdk : decide ((nb : Int) ≤ (k : Int)) = false := decide_eq_false hkb'
        obtain ⟨gb, ob, rfl, hcb⟩ := (Rlb.out.keep KR.out).cellsAt (i := k) (by rw [← Llb.out]; exact hkb)
        have hw := walk_right HDR.out (by rw [← Llb.out]; exact hkb) (.inl (by rw [← Lla.out]; omega))
        have hdat : lb.getD k default = ⟨yt, ynm, yty, yn, ys⟩ := hw.2.1.symm.trans (by rw [← HMg.out]; exact HY.out.symm)
        rw [hdat] at hcb
        have HCb := Lib.hid hcb
        have HN := Lib.hid hw.2.2
        clear hw hcb hdat
        obtain ⟨b0, _, _, _, _⟩ := HCb.out wr (Keeps.refl _ _)
        go_wp2_with fail
        go_quiet (fail)
        rename_i nq
        have kq := drew_keeps wr nq
        obtain ⟨wq, hwq⟩ : ∃ wq : World, wq = wr.drewN nq := ⟨_, rfl⟩
        rw [← hwq] at kq ⊢
        clear hwq b0
        obtain ⟨b0, b1, b2, b3, b4⟩ := HCb.out wq kq
        obtain ⟨m0, m1, m2, m3, m4⟩ := HCm.out wq kq
        have KQ := Lib.hid (KR.out.trans kq (fun _ _ h => h))
        clear kq
        go_wp2_with fail
        go_quiet (fail)
        go_wp2
        go_roundw
        case rel => exact ⟨i, k + 1, by omega, by omega, rfl, by go_num, by rw [show i + (k + 1) = j + 1 by have := HJ.out; omega]; go_num, by rw [show i + (k + 1) = j + 1 by have := HJ.out; omega, HMg.out]; exact HN.out, KQ.out.trans (drew_keeps _ _) (fun _ _ h => h)⟩
        case measure => simp [intOf]; omega
    · have hjm' : ¬ (j : Int) < (nm : Int) := by omega
      have hd : decide ((j : Int) < (nm : Int)) = false := decide_eq_false hjm'
      have Rla := Lib.hid (Rla.out.keep kr)
      have Rlb := Lib.hid (Rlb.out.keep kr)
      have Rlc := Lib.hid (Rlc.out.keep kr)
      have Rlm := Lib.hid (Rlm.out.keep kr)
      have K20 := Lib.hid (K10.out.trans kr (fun _ _ h => h))
      clear kr hdr HJ
      have CQ : Hid (Calls Try.prog 28 #[.slice Alm nm clm, .slice Alc nc clc] wr (NewE ll wr)) := by
        rw [Llm.out, Llc.out, Xll.out]
        exact merge_any wr Alm clm lm Rlm.out (by rw [← Llm.out]; exact Zlm.out) Alc clc lc Rlc.out (by rw [← Llm.out, ← Llc.out]; omega)
      go_wp2_with fail
      refine CQ.out.mono ?_
      rintro e w21 ⟨All, cll, rfl, or', br', kr'⟩
      rw [← Lll.out] at or' ⊢
      have Rll := Lib.hid (own_rdE or' Lll.out)
      have Zll := Lib.hid (own_none or')
      have Rla := Lib.hid (Rla.out.keep kr')
      have Rlb := Lib.hid (Rlb.out.keep kr')
      have Rlc := Lib.hid (Rlc.out.keep kr')
      have Rlm := Lib.hid (Rlm.out.keep kr')
      have K21 := Lib.hid (K20.out.trans kr' (fun _ _ h => h))
      clear or' br' kr' CQ
      have CQ : Hid (Calls Try.prog 28 #[.slice Alb nb clb, .slice Alc nc clc] w21 (NewE lq w21)) := by
        rw [Llb.out, Llc.out, Xlq.out]
        exact merge_any w21 Alb clb lb Rlb.out (by rw [← Llb.out]; exact Zlb.out) Alc clc lc Rlc.out (by rw [← Llb.out, ← Llc.out]; omega)
      go_wp2_with fail
      refine CQ.out.mono ?_
      rintro e w22 ⟨Alq, clq, rfl, or', br', kr'⟩
      rw [← Llq.out] at or' ⊢
      have Rlq := Lib.hid (own_rdE or' Llq.out)
      have Zlq := Lib.hid (own_none or')
      have Rla := Lib.hid (Rla.out.keep kr')
      have Rlb := Lib.hid (Rlb.out.keep kr')
      have Rlc := Lib.hid (Rlc.out.keep kr')
      have Rlm := Lib.hid (Rlm.out.keep kr')
      have Rll := Lib.hid (Rll.out.keep kr')
      have K22 := Lib.hid (K21.out.trans kr' (fun _ _ h => h))
      clear or' br' kr' CQ
      have CQ : Hid (Calls Try.prog 28 #[.slice Ala na cla, .slice Alq nq clq] w22 (NewE ll w22)) := by
        rw [Lla.out, Llq.out, ← HRgt.out]
        exact merge_any w22 Ala cla la Rla.out (by rw [← Lla.out]; exact Zla.out) Alq clq lq Rlq.out (by rw [← Lla.out, ← Llq.out]; omega)
      go_wp2_with fail
      refine CQ.out.mono ?_
      rintro e w23 ⟨Alr, clr, rfl, or', br', kr'⟩
      rw [← Lll.out] at or' ⊢
      have Rlr := Lib.hid (own_rdE or' Lll.out)
      have Rla := Lib.hid (Rla.out.keep kr')
      have Rlb := Lib.hid (Rlb.out.keep kr')
      have Rlc := Lib.hid (Rlc.out.keep kr')
      have Rlm := Lib.hid (Rlm.out.keep kr')
      have Rll := Lib.hid (Rll.out.keep kr')
      have K23 := Lib.hid (K22.out.trans kr' (fun _ _ h => h))
      clear or' br' kr' CQ
      obtain ⟨z0, z1⟩ := HBox.out w23 K23.out
      have UA : Hid (∀ wq, Keeps (fun _ => False) w23 wq → Calls Try.prog 30 #[.slice Ala na cla, .int .i64 t] wq (NewE lu wq)) := fun wq h => by
        rw [Lla.out, Xlu.out]
        exact upto_any wq Ala cla la (Rla.out.keep h) (by rw [← Lla.out]; omega) t
      have UB : Hid (∀ wq, Keeps (fun _ => False) w23 wq → Calls Try.prog 30 #[.slice Alb nb clb, .int .i64 t] wq (NewE lv wq)) := fun wq h => by
        rw [Llb.out, Xlv.out]
        exact upto_any wq Alb clb lb (Rlb.out.keep h) (by rw [← Llb.out]; omega) t
      go_upto_region 22 with fail
      refine wp_region_held_drew (S := fun w' => w'.cell? ⟨w.heap.size, 1, none⟩ = some (.int .i64 t) ∧ Keeps (fun _ => False) w23 w') (by kernel_rfl) (⟨z1, (Keeps.refl _ _).drew⟩) (fun hHeld => ?_)
      clear z0 z1
      refine wpAnyH_take (i := 0) (v := ?_) rfl (by kernel_rfl) (by kernel_rfl) (by kernel_rfl) (fun _ _ _ h => h) (Or.inl ⟨by rfl, ?_⟩) (by assumption) ?_
      rotate_left
      · (intro w' hSw; (try dsimp only at hSw); obtain ⟨z1, zk⟩ := hSw; go_simp; (try (with_reducible rfl)))
      simp only [Act.put, List.getElem_toArray, List.getElem_cons_zero, List.setIfInBounds_toArray, List.set_cons_succ, List.set_cons_zero]
      refine wpAnyH_take (i := 1) (v := ?_) rfl (by kernel_rfl) (by kernel_rfl) (by kernel_rfl) (fun _ _ _ h => h) (Or.inl ⟨by rfl, ?_⟩) (by assumption) ?_
      rotate_left
      · (intro w' hSw; (try dsimp only at hSw); obtain ⟨z1, zk⟩ := hSw; go_simp; (try (with_reducible rfl)))
      simp only [Act.put, List.getElem_toArray, List.getElem_cons_succ, List.getElem_cons_zero, List.setIfInBounds_toArray, List.set_cons_succ, List.set_cons_zero]
      refine wpAnyH_take (i := 2) (v := ?_) rfl (by kernel_rfl) (by kernel_rfl) (by kernel_rfl) (fun _ _ _ h => h) (Or.inl ⟨by rfl, ?_⟩) (by assumption) ?_
      rotate_left
      · (intro w' hSw; (try dsimp only at hSw); obtain ⟨z1, zk⟩ := hSw; go_simp; (try (with_reducible rfl)))
      simp only [Act.put, List.getElem_toArray, List.getElem_cons_succ, List.getElem_cons_zero, List.setIfInBounds_toArray, List.set_cons_succ, List.set_cons_zero]
      refine wpAnyH_take (i := 4) (v := ?_) rfl (by kernel_rfl) (by kernel_rfl) (by kernel_rfl) (fun _ _ _ h => h) (Or.inl ⟨by rfl, ?_⟩) (by assumption) ?_
      rotate_left
      · (intro w' hSw; (try dsimp only at hSw); obtain ⟨z1, zk⟩ := hSw; go_simp; (try (with_reducible rfl)))
      simp only [Act.put, List.getElem_toArray, List.getElem_cons_succ, List.getElem_cons_zero, List.setIfInBounds_toArray, List.set_cons_succ, List.set_cons_zero]
      refine wpAnyH_take (i := 5) (v := ?_) rfl (by kernel_rfl) (by kernel_rfl) (by kernel_rfl) (fun _ _ _ h => h) (Or.inl ⟨by rfl, ?_⟩) (by assumption) ?_
      rotate_left
      · (intro w' hSw; (try dsimp only at hSw); obtain ⟨z1, zk⟩ := hSw; go_simp; (try (with_reducible rfl)))
      simp only [Act.put, List.getElem_toArray, List.getElem_cons_succ, List.getElem_cons_zero, List.setIfInBounds_toArray, List.set_cons_succ, List.set_cons_zero]
      refine wpAnyH_take (i := 6) (v := ?_) rfl (by kernel_rfl) (by kernel_rfl) (by kernel_rfl) (fun _ _ _ h => h) (Or.inl ⟨by rfl, ?_⟩) (by assumption) ?_
      rotate_left
      · (intro w' hSw; (try dsimp only at hSw); obtain ⟨z1, zk⟩ := hSw; go_simp; (try (with_reducible rfl)))
      simp only [Act.put, List.getElem_toArray, List.getElem_cons_succ, List.getElem_cons_zero, List.setIfInBounds_toArray, List.set_cons_succ, List.set_cons_zero]
      refine wpAnyH_ready (rs := [3]) (by kernel_rfl) (by simp) ?_
      refine AllReadyH.cons rfl (fun K hK => ?_) AllReadyH.nil
      go_simp
      (go_at_call 30; refine (UA.out _ hHeld.2).mono ?_; rintro e v1 ⟨Alu, clu, rfl, oc', bc', kc'⟩; have hb4 := kc'; rw [← Llu.out] at oc' bc'; have Rlu := Lib.hid (own_rdE oc' Llu.out); have Zlu := Lib.hid (own_none oc'); clear oc' bc'; (try rw [← Llu.out]); (try go_simp))
      refine hK.out _ _ ?_ (fun hHeld => ?_)
      · (try dsimp only)
        exact ⟨(hb4.cell (cell_ltk hHeld.1) (fun h => h)).trans hHeld.1, hHeld.2.trans hb4 (fun _ _ h => h)⟩
      clear hK K
      refine wpAnyH_ready (rs := [7]) (by kernel_rfl) (by simp) ?_
      refine AllReadyH.cons rfl (fun K hK => ?_) AllReadyH.nil
      go_simp
      (go_at_call 30; refine (UB.out _ hHeld.2).mono ?_; rintro e v2 ⟨Alv, clv, rfl, oc', bc', kc'⟩; have hb4 := kc'; rw [← Llv.out] at oc' bc'; have Rlv := Lib.hid (own_rdE oc' Llv.out); have Zlv := Lib.hid (own_none oc'); have Rlu := Lib.hid (Rlu.out.keep kc'); clear oc' bc'; (try rw [← Llv.out]); (try go_simp))
      refine hK.out _ _ ?_ (fun hHeld => ?_)
      · (try dsimp only)
        exact ⟨(hb4.cell (cell_ltk hHeld.1) (fun h => h)).trans hHeld.1, hHeld.2.trans hb4 (fun _ _ h => h)⟩
      clear hK K
      have CQ : Hid (Calls Try.prog 28 #[.slice Alu nu clu, .slice Alv nv clv] v2 (NewE lx v2)) := by
        rw [Llu.out, Llv.out, Xlx.out]
        exact merge_any v2 Alu clu lu Rlu.out (by rw [← Llu.out]; exact Zlu.out) Alv clv lv Rlv.out (by rw [← Llu.out, ← Llv.out]; omega)
      refine wpAnyH_ready (rs := [8]) (by kernel_rfl) (by simp) ?_
      refine AllReadyH.cons rfl (fun K hK => ?_) AllReadyH.nil
      go_simp
      (go_at_call 28; refine (CQ.out).mono ?_; rintro e v3 ⟨Alx, clx, rfl, oc', bc', kc'⟩; have hb4 := kc'; rw [← Llx.out] at oc' bc'; have Rlx := Lib.hid (own_rdE oc' Llx.out); clear oc' bc'; (try rw [← Llx.out]); (try go_simp))
      refine hK.out _ _ ?_ (fun hHeld => ?_)
      · (try dsimp only)
        exact ⟨(hb4.cell (cell_ltk hHeld.1) (fun h => h)).trans hHeld.1, hHeld.2.trans hb4 (fun _ _ h => h)⟩
      clear hK K
      refine wpAnyH_take (i := 9) (v := ?_) rfl (by kernel_rfl) (by kernel_rfl) (by kernel_rfl) (fun _ _ _ h => h) (Or.inl ⟨by rfl, ?_⟩) (by assumption) ?_
      rotate_left
      · (intro w' hSw; (try dsimp only at hSw); obtain ⟨z1, zk⟩ := hSw; go_simp; (try (with_reducible rfl)))
      simp only [Act.put, List.getElem_toArray, List.getElem_cons_succ, List.getElem_cons_zero, List.setIfInBounds_toArray, List.set_cons_succ, List.set_cons_zero]
      refine wpAnyH_done (by kernel_rfl) ?_ _
      have hk3 := hHeld.2
      have Rla := Lib.hid (Rla.out.keep hk3)
      have Rlb := Lib.hid (Rlb.out.keep hk3)
      have Rlc := Lib.hid (Rlc.out.keep hk3)
      have Rlm := Lib.hid (Rlm.out.keep hk3)
      have Rll := Lib.hid (Rll.out.keep hk3)
      have Rlr := Lib.hid (Rlr.out.keep hk3)
      have K30 := Lib.hid (K23.out.trans hk3 (fun _ _ h => h))
      clear hHeld hk3 kc' CQ UA UB Rlu Rlv Zlu Zlv
      have CQ : Hid (Calls Try.prog 27 #[.slice All nl cll, .slice Alr nl clr] v3 fun e w' => e = .returned (.bool true) ∧ Keeps (fun _ => False) v3 w') := by
        rw [Lll.out]
        exact (same_any v3 All Alr cll clr ll ll Rll.out Rlr.out (by rw [← Lll.out]; omega) (by rw [← Lll.out]; omega)).mono fun e w' h => same_true rfl h
      go_wp2_with fail
      refine CQ.out.mono ?_
      rintro e w31 ⟨rfl, kr'⟩
      have Rla := Lib.hid (Rla.out.keep kr')
      have Rlb := Lib.hid (Rlb.out.keep kr')
      have Rlc := Lib.hid (Rlc.out.keep kr')
      have Rlm := Lib.hid (Rlm.out.keep kr')
      have Rll := Lib.hid (Rll.out.keep kr')
      have Rlr := Lib.hid (Rlr.out.keep kr')
      have Rlx := Lib.hid (Rlx.out.keep kr')
      have K31 := Lib.hid (K30.out.trans kr' (fun _ _ h => h))
      clear kr' CQ
      clear Rll Rlr
      have CQ : Hid (Calls Try.prog 28 #[.slice Ala na cla, .slice none 0 0] w31 (NewE la w31)) := by
        rw [Lla.out]
        exact merge_any w31 Ala cla la Rla.out (by rw [← Lla.out]; exact Zla.out) none 0 [] (fun h => absurd h (Nat.lt_irrefl _)) (by rw [← Lla.out]; simp only [List.length_nil]; omega)
      go_wp2_with fail
      refine CQ.out.mono ?_
      rintro e w32 ⟨Aln, cln, rfl, or', br', kr'⟩
      rw [← Lla.out] at or' ⊢
      have Rln := Lib.hid (own_rdE or' Lla.out)
      have Rla := Lib.hid (Rla.out.keep kr')
      have Rlb := Lib.hid (Rlb.out.keep kr')
      have Rlc := Lib.hid (Rlc.out.keep kr')
      have Rlm := Lib.hid (Rlm.out.keep kr')
      have Rlx := Lib.hid (Rlx.out.keep kr')
      have K32 := Lib.hid (K31.out.trans kr' (fun _ _ h => h))
      clear or' br' kr' CQ
      have CQ : Hid (Calls Try.prog 27 #[.slice Aln na cln, .slice Ala na cla] w32 fun e w' => e = .returned (.bool true) ∧ Keeps (fun _ => False) w32 w') := by
        rw [Lla.out]
        exact (same_any w32 Aln Ala cln cla la la Rln.out Rla.out (by rw [← Lla.out]; omega) (by rw [← Lla.out]; omega)).mono fun e w' h => same_true rfl h
      go_wp2_with fail
      refine CQ.out.mono ?_
      rintro e w33 ⟨rfl, kr'⟩
      have Rla := Lib.hid (Rla.out.keep kr')
      have Rlb := Lib.hid (Rlb.out.keep kr')
      have Rlc := Lib.hid (Rlc.out.keep kr')
      have Rlm := Lib.hid (Rlm.out.keep kr')
      have Rlx := Lib.hid (Rlx.out.keep kr')
      have Rln := Lib.hid (Rln.out.keep kr')
      have K33 := Lib.hid (K32.out.trans kr' (fun _ _ h => h))
      clear kr' CQ
      clear Rln
      obtain ⟨z0, z1⟩ := HBox.out w33 K33.out
      have CQ : Hid (Calls Try.prog 30 #[.slice Alm nm clm, .int .i64 t] w33 (NewE lx w33)) := by
        rw [Llm.out, ← HCut.out]
        exact upto_any w33 Alm clm lm Rlm.out (by rw [← Llm.out]; omega) t
      go_wp2_with fail
      refine CQ.out.mono ?_
      rintro e w34 ⟨Alz, clz, rfl, or', br', kr'⟩
      rw [← Llx.out] at or' ⊢
      have Rlz := Lib.hid (own_rdE or' Llx.out)
      clear z0 z1
      have Rla := Lib.hid (Rla.out.keep kr')
      have Rlb := Lib.hid (Rlb.out.keep kr')
      have Rlc := Lib.hid (Rlc.out.keep kr')
      have Rlm := Lib.hid (Rlm.out.keep kr')
      have Rlx := Lib.hid (Rlx.out.keep kr')
      have K34 := Lib.hid (K33.out.trans kr' (fun _ _ h => h))
      clear or' br' kr' CQ
      have CQ : Hid (Calls Try.prog 27 #[.slice Alz nx clz, .slice Alx nx clx] w34 fun e w' => e = .returned (.bool true) ∧ Keeps (fun _ => False) w34 w') := by
        rw [Llx.out]
        exact (same_any w34 Alz Alx clz clx lx lx Rlz.out Rlx.out (by rw [← Llx.out]; omega) (by rw [← Llx.out]; omega)).mono fun e w' h => same_true rfl h
      go_wp2_with fail
      refine CQ.out.mono ?_
      rintro e w35 ⟨rfl, kr'⟩
      have Rla := Lib.hid (Rla.out.keep kr')
      have Rlb := Lib.hid (Rlb.out.keep kr')
      have Rlc := Lib.hid (Rlc.out.keep kr')
      have Rlm := Lib.hid (Rlm.out.keep kr')
      have Rlx := Lib.hid (Rlx.out.keep kr')
      have Rlz := Lib.hid (Rlz.out.keep kr')
      have K35 := Lib.hid (K34.out.trans kr' (fun _ _ h => h))
      clear kr' CQ
      have HFn := Lib.hid ((KW.out.trans K35.out (T := fun _ => False) (fun _ _ h => h)).toBelow (Nat.le_refl _) (fun _ h => h.elim))
      go_wp2
      go_ret
      exact ⟨rfl, HFn.out⟩

end Go.Proofs.Ytpighdioomjnmab
