/-
 Layer 1: the contract of All. Written by an AI agent.
 Layer 1: what All tells, case by case; the document's example; short. Written by an AI agent.
 Layer 1: the line of a place. Written by an AI agent.
 Layer 2: the parser in memory. Written by an AI agent.
-/
import Derived.WalkMore
import Derived.Scope
import Derived.Test.YtbhpnioggpgbhaaGreatDoorMcah
namespace Go.Proofs.YtbhpnioggpgbhaaGreatDoor
open Go.RowKit Go.Shelf
set_option linter.unusedVariables false
set_option linter.unusedSimpArgs false
theorem index_run (l : List UInt8) : (Lib.indexByte l 10 = -1 ∧ runL (fun d => !decide (d = 10)) l = l.length) ∨ (Lib.indexByte l 10 = ((runL (fun d => !decide (d = 10)) l : Nat) : Int) ∧ ¬ runL (fun d => !decide (d = 10)) l = l.length) := by
 induction l with
 | nil => exact .inl ⟨rfl, rfl⟩
 | cons b l ih =>
  have hr : runL (fun d => !decide (d = 10)) (b :: l) = if b = 10 then 0 else runL (fun d => !decide (d = 10)) l + 1 := by
   show (if (!decide (b = 10)) = true then _ else 0) = _
   by_cases hb : b = 10
   ·simp [hb]
   ·simp [hb]
  have hi : Lib.indexByte (b :: l) 10 = if b = 10 then 0 else if Lib.indexByte l 10 = -1 then -1 else Lib.indexByte l 10 + 1 := by
   show (if (b == 10) = true then _ else if (Lib.indexByte l 10 == -1) = true then _ else _) = _
   simp
  rw [hr, hi]
  by_cases hb : b = 10
  ·rw [if_pos hb, if_pos hb]
   exact .inr ⟨rfl, by rw [List.length_cons]; omega⟩
  ·rw [if_neg hb, if_neg hb]
   rcases ih with ⟨h1, h2⟩ | ⟨h1, h2⟩
   ·rw [if_pos h1]
    exact .inl ⟨rfl, by rw [h2, List.length_cons]⟩
   ·rw [if_neg (by omega)]
    exact .inr ⟨by rw [h1]; omega, by rw [List.length_cons]; omega⟩
theorem ErrW.keepB {w w' : World} (h : ErrW w) (hk : Keeps (fun b => w.heap.size ≤ b) w w') : ErrW w' := by
 obtain ⟨b, tp, p, hg, hb, hv⟩ := h
 refine ⟨b, tp, p, hg, Nat.lt_of_lt_of_le hb hk.size, ?_⟩
 unfold World.var? at hv ⊢
 rw [hg] at hv ⊢
 simp only [Option.bind_some] at hv ⊢
 rw [hk.block b hb (fun h => by omega)]
 exact hv
/-- New tokens. -/
def NewT (L : List Tok) (w : World) (A : Option Addr) (c : Nat) (w' : World) : Prop :=
 w'.ownsRow 0 77 3 (.slice A L.length c) L.length (flatT L) ∧ (∀ g, (Value.slice A L.length c).ownBlock = some g → w.heap.size ≤ g)
/-- What All tells. -/
def AllE (l : List UInt8) (w : World) (e : Ending) (w' : World) : Prop :=
  (if 600 < l.length then e = .returned (.tuple #[.slice none 0 0, .int .i64 0, .int .i64 4])
   else match (lexL l 0).2 with
    | none => ∃ A c, e = .returned (.tuple #[.slice A (lexL l 0).1.length c, .int .i64 0, .int .i64 0]) ∧ NewT (lexL l 0).1 w A c w'
    | some (q, er) => e = .returned (.tuple #[.slice none 0 0, .int .i64 (q : Int), .int .i64 (er : Int)])) ∧ Keeps (fun _ => False) w w'
theorem kback {B : Nat} {w w' : World} (h : Keeps (fun b => B ≤ b) w w') (hB : B = w.heap.size) : Keeps (fun _ => False) w w' :=
 ⟨h.os, h.tape, h.output, h.size, fun k hk hn => h.block k hk (fun h2 => by omega)⟩
theorem tokens_le (l : List UInt8) (p : Nat) : (lexL l p).1.length ≤ l.length + 1 := by
 refine lexL_ind (P := fun l p => (lexL l p).1.length ≤ l.length + 1) ?_ ?_ ?_ ?_ ?_ ?_ l p
 ·intro p; exact Nat.le_refl _
 ·intro c r p h ih; rw [lexL_blank h, List.length_cons]; omega
 ·intro c r p h h1 h2; rw [lexL_rem_end h h1 h2]; simp
 ·intro c r p h h1 h2 ih; rw [lexL_rem h h1 h2]; rw [List.length_drop] at ih; omega
 ·intro c r p h h1 h2; rw [lexL_bad h h1 h2]; simp
 ·intro c r p h h1 h2 ih
  have := first_size (c :: r) (by simp) h2
  rw [lexL_tok h h1 h2]
  rw [List.length_drop] at ih
  simp only [List.length_cons] at ih this ⊢
  omega
set_option maxRecDepth 100000 in
set_option maxHeartbeats 8000000 in
theorem all_any (s : ByteArray) (hs : s.size ≤ 1000) (w : World) (he : ErrW w) : Calls Tryz.prog 33 #[.string s] w (AllE s.data.toList w) := by
 obtain ⟨l, hl⟩ : ∃ l : List UInt8, l = s.data.toList := ⟨_, rfl⟩
 obtain ⟨N, hN⟩ : ∃ N : Nat, N = s.size := ⟨_, rfl⟩
 have hlN : l.length = N := by rw [hl, hN, len_size]
 rw [← hl]
 have HL := Lib.hid hl
 have HN := Lib.hid hN
 have HLN := Lib.hid hlN
 by_cases hbig : 600 < N
 ·have hbigI : (600 : Int) < (s.size : Int) := by omega
  have hd : decide ((600 : Int) < (s.size : Int)) = true := decide_eq_true hbigI
  have hfin : AllE l w (.returned (.tuple #[.slice none 0 0, .int .i64 0, .int .i64 4])) w := ⟨by rw [hlN, if_pos hbig], Keeps.refl _ _⟩
  have HF := Lib.hid hfin
  clear hl hN hlN hfin he
  go_enter Tryz.func33, Tryz.ntmps33
  go_wp2
  go_step3
  go_wp2
  rw [Exit.noGoto_ret]
  go_ret3
  exact HF.out
 have hbigI : ¬ (600 : Int) < (s.size : Int) := by omega
 have hd : decide ((600 : Int) < (s.size : Int)) = false := decide_eq_false hbigI
 have hNS : s.size = N := hN.symm
 have HNS := Lib.hid hNS
 obtain ⟨B, hB⟩ : ∃ B : Nat, B = w.heap.size := ⟨_, rfl⟩
 have HE := Lib.hid he
 have HB := Lib.hid hB
 clear hl hN hlN he hNS hB
 go_enter Tryz.func33, Tryz.ntmps33
 go_wp2
 go_step3
 go_wp2_with fail
 have k1 : Keeps (fun b => B ≤ b) w ((w.alloc (.cells #[.slice none 0 0] 52)).alloc (.cells #[.int .i64 0] 3)) := ((Keeps.refl _ _).alloc _).alloc _
 have o1 : Out ((w.alloc (.cells #[.slice none 0 0] 52)).alloc (.cells #[.int .i64 0] 3)) B w.heap.size (w.heap.size + 1) (.slice none 0 0) [] 0 :=
  ⟨by simp, by simp, by simp, by simp, World.ownsRow_nil _ _ _ _, fun g hg => by simp [Value.ownBlock] at hg, by have := HB.out; omega, by have := HB.out; omega, by omega⟩
 obtain ⟨w1, hw1⟩ : ∃ w1 : World, w1 = (w.alloc (.cells #[.slice none 0 0] 52)).alloc (.cells #[.int .i64 0] 3) := ⟨_, rfl⟩
 rw [← hw1] at k1 o1 ⊢
 clear hw1
 obtain ⟨po, hpo⟩ : ∃ po : Nat, po = w.heap.size := ⟨_, rfl⟩
 obtain ⟨pa, hpa⟩ : ∃ pa : Nat, pa = w.heap.size + 1 := ⟨_, rfl⟩
 rw [← hpa, ← hpo] at o1 ⊢
 have K1 := Lib.hid k1
 have O1 := Lib.hid o1
 clear k1 o1 hpo hpa
 go_step3
 go_wp2_with fail
 go_loopw [8] (fun s8 wr => ∃ (p : Nat) (done : List Tok) (v : Value), p ≤ N ∧ done.length ≤ p ∧ Out wr B po pa v done p ∧ lexL l 0 = (done ++ (lexL (l.drop p) p).1, (lexL (l.drop p) p).2) ∧ Keeps (fun b => B ≤ b) w wr) (fun s8 wr => N - (intOf ((wr.cell? ⟨pa, 0, none⟩).getD undef)).toNat)
 case atStart => exact ⟨0, [], _, Nat.zero_le _, Nat.zero_le _, O1.out, by rw [List.drop_zero, List.nil_append], K1.out⟩
 case round =>
  obtain ⟨p, done, v, hp, hdl, ho, hlex, kr⟩ := hrel
  have ca := ho.ca
  have fa := ho.fa
  have HO := Lib.hid ho
  have KR := Lib.hid kr
  have HLX0 := Lib.hid hlex
  clear ho kr hlex
  by_cases hpN : p < N
  ·have hpS : p < s.size := by have := HNS.out; omega
   have hpI : (p : Int) < (s.size : Int) := by omega
   have hpI2 : (p : Int) ≤ (s.size : Int) := by omega
   have hp0 : (0 : Int) ≤ (p : Int) := by omega
   obtain ⟨t, ht⟩ : ∃ t : ByteArray, t = s.extract p s.size := ⟨_, rfl⟩
   have htl : t.data.toList = l.drop p := by rw [ht, HL.out]; exact ext_drop s p
   have hts : t.size = s.size - p := by rw [ht]; exact ext_size2 s p
   have ht0 : 0 < t.size := by omega
   have htI : (0 : Int) < (t.size : Int) := by omega
   obtain ⟨c, hc⟩ : ∃ c : UInt8, c = t[0] := ⟨_, rfl⟩
   obtain ⟨r, hr⟩ : ∃ r, l.drop p = c :: r := by
    have h2 := at_byte t 0 ht0
    rw [htl, ← hc] at h2
    cases hh : l.drop p with
    | nil => rw [hh] at h2; simp at h2
    | cons d r => rw [hh] at h2; exact ⟨r, by rw [show d = c by simpa using h2]⟩
   have hrl : (c :: r).length = s.size - p := by rw [← hr, ← htl, len_size, hts]
   rw [hr] at htl
   have HT := Lib.hid ht
   have HC := Lib.hid hc
   have HR := Lib.hid hr
   have HTL := Lib.hid htl
   have HTS := Lib.hid hts
   have HRL := Lib.hid hrl
   have BC := Lib.hid (tells_blk wr c)
   have HMe := Lib.hid ca
   clear ht hc hr htl hts hrl
   go_upto_region 12 with fail
   rw [← HT.out]
   cases hb : blk c with
   | true =>
    rw [hb] at BC
    have HBk := Lib.hid hb
    clear hb
    go_wp2_with fail
    rw [← HC.out]
    refine BC.out.mono ?_
    rintro e w2 ⟨rfl, k2⟩
    have o2 := HO.out.keep k2
    have g2 := o2.go (p + 1)
    rw [show ((p + 1 : Nat) : Int) = (p : Int) + 1 by omega] at g2
    have ca2 := o2.ca
    have fa2 := o2.fa
    have O3 := Lib.hid g2.1
    have K3 := Lib.hid (KR.out.trans ((k2.mono (T := fun b => B ≤ b) (fun _ _ h => h.elim)).trans g2.2 (fun _ _ h => h)) (fun _ _ h => h))
    clear o2 g2 k2 ca fa
    go_wp2
    go_roundw
    case rel => exact ⟨p + 1, done, v, by omega, by omega, O3.out, by rw [HLX0.out, HR.out, lexL_blank HBk.out, show l.drop (p + 1) = r by rw [← List.drop_drop, HR.out]; rfl], K3.out⟩
    case measure => rw [O3.out.ca, HMe.out]; simp [intOf]; omega
   | false =>
    rw [hb] at BC
    have HBk := Lib.hid hb
    clear hb
    have PX : Hid (∀ w, Calls Tryz.prog 55 #[.string t, .string { data := #[47, 47] }] w fun e w' => e = .returned (.bool (isRem (c :: r))) ∧ w' = w) := fun w => by
     have h := prefix_any t { data := #[47, 47] } w
     rw [HTL.out] at h
     exact h
    cases hrm : isRem (c :: r) with
    | true =>
     rw [hrm] at PX
     have HRm := Lib.hid hrm
     have IX : Hid (∀ w, Calls Tryz.prog 56 #[.string t, .int .u8 10] w fun e w' => e = .returned (.int .i64 (Lib.indexByte (c :: r) 10)) ∧ w' = w) := fun w => by
      have h := index_any t 10 w
      rw [HTL.out] at h
      exact h
     have hidx := index_run (c :: r)
     obtain ⟨z, hz⟩ : ∃ z : Int, z = Lib.indexByte (c :: r) 10 := ⟨_, rfl⟩
     rw [← hz] at IX hidx
     obtain ⟨q, hq⟩ : ∃ q : Nat, q = runL (fun d => !decide (d = 10)) (c :: r) := ⟨_, rfl⟩
     have hqle := runL_le (fun d => !decide (d = 10)) (c :: r)
     have hq2 := rem_size (c :: r) hrm
     rw [← hq] at hidx hqle hq2
     have hrlen := HRL.out
     have HQ := Lib.hid hq
     clear hrm hz hq
     rcases hidx with ⟨hz1, hend⟩ | ⟨hz1, hend⟩
     ·subst hz1
      go_wp2_with fail
      rw [← HC.out]
      refine BC.out.mono ?_
      rintro e w2 ⟨rfl, k2⟩
      have O2 := Lib.hid (HO.out.keep k2)
      have K2 := Lib.hid (KR.out.trans k2 (T := fun _ => False) (fun _ _ h => h.elim))
      clear k2 ca fa
      go_wp2_with fail
      refine (PX.out w2).mono ?_
      rintro e w3 ⟨rfl, hw3⟩
      obtain rfl : w2 = w3 := hw3.symm
      go_wp2_with fail
      refine (IX.out _).mono ?_
      rintro e w4 ⟨rfl, hw4⟩
      obtain rfl : w2 = w4 := hw4.symm
      have hg := O2.out.go s.size
      have hlx : lexL l 0 = (done ++ [⟨0, [], s.size⟩], none) := by rw [HLX0.out, HR.out, lexL_rem_end HBk.out HRm.out (by rw [← HQ.out]; exact hend), hrlen, show p + (s.size - p) = s.size by omega]
      obtain ⟨wt, hwt⟩ : ∃ wt : World, wt = w2.setCell ⟨pa, 0, none⟩ (.int .i64 (s.size : Int)) := ⟨_, rfl⟩
      rw [← hwt] at hg
      have PC : Hid (Calls Tryz.prog 53 #[.int .i64 0, .string { data := #[] }, .int .i64 0, .pointer (some ⟨po, 0, none⟩), .pointer (some ⟨pa, 0, none⟩)] wt fun e w' => e = .returned (.tuple #[]) ∧ (∃ v', Out w' B po pa v' (done ++ [⟨0, [], s.size⟩]) (s.size + 0)) ∧ Keeps (fun b => B ≤ b) wt w') :=
       put_any wt B po pa v done s.size hg.1 (by omega) hs 0 [] 0 (by omega)
      have KT := Lib.hid (K2.out.trans hg.2 (fun _ _ h => h))
      have HLX := Lib.hid hlx
      have HWT := Lib.hid hwt
      have fa' := O2.out.fa
      have ca' := O2.out.ca
      clear hg hlx hwt
      go_wp2_with fail
      rw [← HWT.out]
      refine PC.out.mono ?_
      rintro e wu ⟨rfl, ⟨v', ou⟩, ku⟩
      obtain ⟨M, hM⟩ : ∃ M : List Tok, M = done ++ [⟨0, [], s.size⟩] := ⟨_, rfl⟩
      rw [← hM] at ou
      obtain ⟨m, hm⟩ : ∃ m : Nat, m = M.length := ⟨_, rfl⟩
      have oo := ou.own
      rw [← hm] at oo
      obtain ⟨A5, c5, rfl⟩ := own_formk oo
      have hfin : AllE l w (.returned (.tuple #[.slice A5 m c5, .int .i64 0, .int .i64 0])) wu := by
       refine ⟨?_, kback (KT.out.trans ku (fun _ _ h => h)) HB.out⟩
       rw [HLN.out, if_neg hbig, show (lexL l 0).2 = none by rw [HLX.out]]
       show ∃ A c, _ = _ ∧ _
       rw [show (lexL l 0).1 = M by rw [HLX.out, hM]]
       rw [hm] at oo ⊢
       exact ⟨A5, c5, rfl, oo, fun g hg => by rw [← hm] at hg; have h1 := (ou.hb g hg).1; have h2 := HB.out; omega⟩
      have co5 := ou.co
      have HF := Lib.hid hfin
      clear ou ku hM hm oo hfin PC fa' ca'
      go_wp2
      rw [Exit.noGoto_ret]
      go_ret3
      exact HF.out
     ·have hzI : ¬ z < 0 := by omega
      have hdz : decide (z < 0) = false := decide_eq_false hzI
      subst hz1
      have swz : IntKind.i64.wrap ((p : Int) + (q : Int)) = (p : Int) + (q : Int) := IntWalk.i64_in _ (by omega)
      go_wp2_with fail
      rw [← HC.out]
      refine BC.out.mono ?_
      rintro e w2 ⟨rfl, k2⟩
      have o2 := HO.out.keep k2
      have ca2 := o2.ca
      have fa2 := o2.fa
      have g2 := o2.go (p + q)
      rw [show ((p + q : Nat) : Int) = (p : Int) + (q : Int) by omega] at g2
      have O3 := Lib.hid g2.1
      have K3 := Lib.hid (KR.out.trans ((k2.mono (T := fun b => B ≤ b) (fun _ _ h => h.elim)).trans g2.2 (fun _ _ h => h)) (fun _ _ h => h))
      clear o2 g2 k2 ca fa
      go_wp2_with fail
      refine (PX.out w2).mono ?_
      rintro e w3 ⟨rfl, hw3⟩
      obtain rfl : w2 = w3 := hw3.symm
      go_wp2_with fail
      refine (IX.out _).mono ?_
      rintro e w4 ⟨rfl, hw4⟩
      obtain rfl : w2 = w4 := hw4.symm
      go_wp2
      go_roundw
      case rel => exact ⟨p + q, done, v, by have := HNS.out; omega, by omega, O3.out, by rw [HLX0.out, HR.out, lexL_rem HBk.out HRm.out (by rw [← HQ.out]; exact hend), ← HQ.out, show l.drop (p + q) = (c :: r).drop q by rw [← List.drop_drop, HR.out]], K3.out⟩
      case measure => rw [O3.out.ca, HMe.out]; simp [intOf]; omega
    | false =>
     rw [hrm] at PX
     have HRm := Lib.hid hrm
     have FX : Hid (∀ w', ErrW w' → Triple 57 t (firstL (c :: r)) w') := fun w' h => by
      have h2 := first_any t (by have := HTS.out; omega) ht0 w' h
      rw [HTL.out] at h2
      exact h2
     have hsz := first_size (c :: r) (by simp)
     have hgood := fun h3 => (first_good p HBk.out hrm h3).1
     obtain ⟨R, hRR⟩ : ∃ R : Nat × Nat × Nat, R = firstL (c :: r) := ⟨_, rfl⟩
     rw [← hRR] at FX hsz hgood
     obtain ⟨Rk, Rn, Re⟩ := R
     have HRR := Lib.hid hRR
     have hrlen := HRL.out
     clear hrm hRR
     by_cases hRe : Re = 0
     ·have hz2 := hsz hRe
      have hz2 : 1 ≤ Rn ∧ Rn ≤ (c :: r).length := hz2
      have hgd := hgood hRe
      have hkk : Rk = 2 → 2 ≤ Rn := fun h => by
       have h1 := (first_good p HBk.out HRm.out (by rw [← HRR.out]; exact hRe)).2
       have h2 := congrArg List.length h1
       rw [List.length_take, ← HRR.out] at h2
       unfold tokB at h2
       rw [if_pos (show (⟨Rk, _, p⟩ : Tok).k = 2 from h)] at h2
       simp only [List.length_cons, List.length_append, List.length_nil] at h2
       simp only [List.length_cons] at hz2
       omega
      have hRn : Rn ≤ 1000 := by omega
      have hRnI : (Rn : Int) ≤ (t.size : Int) := by have := HTS.out; omega
      have hRn0 : (0 : Int) ≤ (Rn : Int) := by omega
      have SX : Hid (∀ w', Calls Tryz.prog 58 #[.int .i64 (Rk : Int), .string (t.extract 0 Rn)] w' fun e w'' => e = .returned (.string (ofL (saidL Rk ((c :: r).take Rn)))) ∧ Keeps (fun _ => False) w' w'') := fun w' => by
       have hle : Rn ≤ t.size := by omega
       have h := said_any Rk (t.extract 0 Rn) (fun h => by rw [ext_size t Rn hle]; exact hkk h) (by rw [ext_size t Rn hle]; exact hRn) w'
       rw [ext_take, HTL.out] at h
       exact h
      have hlt := lexL_tok (p := p) HBk.out HRm.out (by rw [← HRR.out]; exact hRe)
      rw [← HRR.out] at hlt
      have HLT := Lib.hid hlt
      obtain ⟨X, hX⟩ : ∃ X : List UInt8, X = saidL Rk ((c :: r).take Rn) := ⟨_, rfl⟩
      have HX := Lib.hid hX
      rw [← hX] at SX
      subst hRe
      clear hlt hX hsz hgood hgd hkk
      go_wp2_with fail
      rw [← HC.out]
      refine BC.out.mono ?_
      rintro e w2 ⟨rfl, k2⟩
      have O2 := Lib.hid (HO.out.keep k2)
      have k2' := KR.out.trans k2 (T := fun _ => False) (fun _ _ h => h.elim)
      have F2 := Lib.hid (FX.out w2 (HE.out.keepB (by rw [← HB.out]; exact k2')))
      have K2 := Lib.hid k2'
      clear k2 k2' ca fa FX
      go_wp2_with fail
      refine (PX.out w2).mono ?_
      rintro e w3 ⟨rfl, hw3⟩
      obtain rfl : w2 = w3 := hw3.symm
      go_wp2_with fail
      refine F2.out.mono ?_
      rintro e w4 ⟨rfl, k4⟩
      have O4 := Lib.hid (O2.out.keep k4)
      have K4 := Lib.hid (K2.out.trans k4 (T := fun _ => False) (fun _ _ h => h.elim))
      clear k4 F2 PX
      go_wp2_with fail
      refine (SX.out w4).mono ?_
      rintro e w5 ⟨rfl, k5⟩
      have O5 := Lib.hid (O4.out.keep k5)
      have K5 := Lib.hid (K4.out.trans k5 (T := fun _ => False) (fun _ _ h => h.elim))
      have PC := Lib.hid (put_any w5 B po pa v done p O5.out (by omega) (by omega) Rk X Rn hRn)
      clear k5 SX
      go_wp2_with fail
      refine PC.out.mono ?_
      rintro e w6 ⟨rfl, ⟨v', o6⟩, k6⟩
      have O6 := Lib.hid o6
      have K6 := Lib.hid (K5.out.trans k6 (fun _ _ h => h))
      clear o6 k6 PC
      go_wp2
      go_roundw
      case rel => exact ⟨p + Rn, done ++ [⟨Rk, X, p⟩], v', by have := HNS.out; omega, by rw [List.length_append, List.length_singleton]; omega, O6.out, by
       rw [HLX0.out, HR.out, HLT.out, show l.drop (p + Rn) = (c :: r).drop Rn by rw [← List.drop_drop, HR.out], HX.out]
       simp, K6.out⟩
      case measure => rw [O6.out.ca, HMe.out]; simp [intOf]; omega
     ·have hb : ((Re : Int) != 0) = true := bne_iff_ne.2 (by omega)
      have hlb := lexL_bad (p := p) HBk.out HRm.out (by rw [← HRR.out]; exact hRe)
      rw [← HRR.out] at hlb
      have hfin : ∀ w', Keeps (fun b => B ≤ b) w w' → AllE l w (.returned (.tuple #[.slice none 0 0, .int .i64 (p : Int), .int .i64 (Re : Int)])) w' := fun w' hk => by
       refine ⟨?_, kback hk HB.out⟩
       rw [HLN.out, if_neg hbig, show (lexL l 0).2 = some (p, Re) by rw [HLX0.out, HR.out, hlb]]
      have HF := Lib.hid hfin
      clear hlb hfin hsz hgood hRe
      go_wp2_with fail
      rw [← HC.out]
      refine BC.out.mono ?_
      rintro e w2 ⟨rfl, k2⟩
      have O2 := Lib.hid (HO.out.keep k2)
      have k2' := KR.out.trans k2 (T := fun _ => False) (fun _ _ h => h.elim)
      have F2 := Lib.hid (FX.out w2 (HE.out.keepB (by rw [← HB.out]; exact k2')))
      have K2 := Lib.hid k2'
      clear k2 k2' ca fa FX
      go_wp2_with fail
      refine (PX.out w2).mono ?_
      rintro e w3 ⟨rfl, hw3⟩
      obtain rfl : w2 = w3 := hw3.symm
      go_wp2_with fail
      refine F2.out.mono ?_
      rintro e w4 ⟨rfl, k4⟩
      have O4 := Lib.hid (O2.out.keep k4)
      have ca4 := O4.out.ca
      have K4 := Lib.hid (K2.out.trans k4 (T := fun _ => False) (fun _ _ h => h.elim))
      clear k4 F2 PX
      go_wp2_with fail
      go_quiet (fail)
      go_wp2
      rw [Exit.noGoto_ret]
      go_ret3
      exact HF.out _ (K4.out.trans (drew_keeps _ _) (fun _ _ h => h.elim))
  ·have hpe : p = N := by omega
   have hpI : ¬ (p : Int) < (s.size : Int) := by have := HNS.out; omega
   have hdd : decide ((p : Int) < (s.size : Int)) = false := decide_eq_false hpI
   have hps : p = s.size := by have := HNS.out; omega
   have HPS := Lib.hid hps
   clear hps hpe
   have hg := HO.out.go s.size
   have hlx : lexL l 0 = (done ++ [⟨0, [], s.size⟩], none) := by rw [HLX0.out, HPS.out, show l.drop s.size = [] by rw [HL.out]; exact List.drop_of_length_le (by rw [len_size]; exact Nat.le_refl _), lexL_nil]
   obtain ⟨wt, hwt⟩ : ∃ wt : World, wt = wr.setCell ⟨pa, 0, none⟩ (.int .i64 (s.size : Int)) := ⟨_, rfl⟩
   rw [← hwt] at hg
   have PC : Hid (Calls Tryz.prog 53 #[.int .i64 0, .string { data := #[] }, .int .i64 0, .pointer (some ⟨po, 0, none⟩), .pointer (some ⟨pa, 0, none⟩)] wt fun e w' => e = .returned (.tuple #[]) ∧ (∃ v', Out w' B po pa v' (done ++ [⟨0, [], s.size⟩]) (s.size + 0)) ∧ Keeps (fun b => B ≤ b) wt w') :=
    put_any wt B po pa v done s.size hg.1 (by omega) hs 0 [] 0 (by omega)
   have KT := Lib.hid (KR.out.trans hg.2 (fun _ _ h => h))
   have HLX := Lib.hid hlx
   have HWT := Lib.hid hwt
   have fa' := HO.out.fa
   have ca' := HO.out.ca
   clear hg hlx hwt
   go_wp2_with fail
   rw [← HWT.out]
   refine PC.out.mono ?_
   rintro e wu ⟨rfl, ⟨v', ou⟩, ku⟩
   obtain ⟨M, hM⟩ : ∃ M : List Tok, M = done ++ [⟨0, [], s.size⟩] := ⟨_, rfl⟩
   rw [← hM] at ou
   obtain ⟨m, hm⟩ : ∃ m : Nat, m = M.length := ⟨_, rfl⟩
   have oo := ou.own
   rw [← hm] at oo
   obtain ⟨A5, c5, rfl⟩ := own_formk oo
   have hfin : AllE l w (.returned (.tuple #[.slice A5 m c5, .int .i64 0, .int .i64 0])) wu := by
    refine ⟨?_, kback (KT.out.trans ku (fun _ _ h => h)) HB.out⟩
    rw [HLN.out, if_neg hbig, show (lexL l 0).2 = none by rw [HLX.out]]
    show ∃ A c, _ = _ ∧ _
    rw [show (lexL l 0).1 = M by rw [HLX.out, hM]]
    rw [hm] at oo ⊢
    exact ⟨A5, c5, rfl, oo, fun g hg => by rw [← hm] at hg; have h1 := (ou.hb g hg).1; have h2 := HB.out; omega⟩
   have co5 := ou.co
   have HF := Lib.hid hfin
   clear ou ku hM hm oo hfin PC fa' ca'
   go_wp2
   rw [Exit.noGoto_ret]
   go_ret3
   exact HF.out
end Go.Proofs.YtbhpnioggpgbhaaGreatDoor

namespace Go.Proofs.YtbhpnioggpgbhaaGreatDoor
open Go.RowKit Go.Shelf
set_option linter.unusedVariables false
set_option linter.unusedSimpArgs false
/-- What lies at a slice's cells: tokens. -/
def RdT (w : World) (A : Option Addr) (L : List Tok) : Prop := 0 < L.length → ∃ b off, A = some ⟨b, off, none⟩ ∧ ∀ k, k < L.length →
 w.cell? ⟨b, off + k * 3, none⟩ = some (.int .i64 ((L.getD k default).k : Int)) ∧ w.cell? ⟨b, off + k * 3 + 1, none⟩ = some (.string (ofL (L.getD k default).x)) ∧ w.cell? ⟨b, off + k * 3 + 2, none⟩ = some (.int .i64 ((L.getD k default).p : Int))
theorem RdT.keep {w w' : World} {A : Option Addr} {L : List Tok} (h : RdT w A L) (hk : Keeps (fun _ => False) w w') : RdT w' A L := fun h0 => by
 obtain ⟨b, off, e, hc⟩ := h h0
 have hb : b < w.heap.size := cell_ltk (hc 0 h0).1
 refine ⟨b, off, e, fun k hk2 => ?_⟩
 obtain ⟨c0, c1, c2⟩ := hc k hk2
 exact ⟨(hk.cell hb (fun h => h)).trans c0, (hk.cell hb (fun h => h)).trans c1, (hk.cell hb (fun h => h)).trans c2⟩
theorem own_rdT {w : World} {A : Option Addr} {c n : Nat} {L : List Tok} (h : w.ownsRow 0 77 3 (.slice A n c) n (flatT L)) (hn : n = L.length) : RdT w A L := fun h0 => by
 rcases h.2 with ⟨_, h1⟩ | ⟨g, cap, cur, e1, _⟩
 ·omega
 ·simp only [Value.slice.injEq] at e1
  obtain ⟨rfl, _, rfl⟩ := e1
  refine ⟨g, 0, rfl, fun k hk => ?_⟩
  obtain ⟨f0, f1, f2⟩ := flatT_at L k hk
  rw [Nat.zero_add]
  exact ⟨(h.cellAt _ (by omega)).trans f0, (h.cellAt _ (by omega)).trans f1, (h.cellAt _ (by omega)).trans f2⟩
theorem all_ok (s : ByteArray) (hs : s.size ≤ 600) (ts : List Tok) (h : lexL s.data.toList 0 = (ts, none)) (w : World) (he : ErrW w) :
  Calls Tryz.prog 33 #[.string s] w fun e w' => ∃ A c, e = .returned (.tuple #[.slice A ts.length c, .int .i64 0, .int .i64 0]) ∧ RdT w' A ts ∧ Keeps (fun _ => False) w w' :=
 (all_any s (by omega) w he).mono fun e w' ⟨h1, hk⟩ => by
  rw [if_neg (by rw [len_size]; omega), show (lexL s.data.toList 0).2 = none by rw [h]] at h1
  obtain ⟨A, c, e1, o, _⟩ := (h1 : ∃ A c, e = .returned (.tuple #[.slice A (lexL s.data.toList 0).1.length c, .int .i64 0, .int .i64 0]) ∧ NewT (lexL s.data.toList 0).1 w A c w')
  rw [show (lexL s.data.toList 0).1 = ts by rw [h]] at e1 o
  exact ⟨A, c, e1, own_rdT o rfl, hk⟩
theorem all_bad (s : ByteArray) (hs : s.size ≤ 600) (q er : Nat) (h : (lexL s.data.toList 0).2 = some (q, er)) (w : World) (he : ErrW w) :
  Calls Tryz.prog 33 #[.string s] w fun e w' => e = .returned (.tuple #[.slice none 0 0, .int .i64 (q : Int), .int .i64 (er : Int)]) ∧ Keeps (fun _ => False) w w' :=
 (all_any s (by omega) w he).mono fun e w' ⟨h1, hk⟩ => by
  rw [if_neg (by rw [len_size]; omega), h] at h1
  exact ⟨h1, hk⟩
theorem all_big (s : ByteArray) (hb : 600 < s.size) (hs : s.size ≤ 1000) (w : World) (he : ErrW w) :
  Calls Tryz.prog 33 #[.string s] w fun e w' => e = .returned (.tuple #[.slice none 0 0, .int .i64 0, .int .i64 4]) ∧ Keeps (fun _ => False) w w' :=
 (all_any s hs w he).mono fun e w' ⟨h1, hk⟩ => by
  rw [if_pos (by rw [len_size]; exact hb)] at h1
  exact ⟨h1, hk⟩
end Go.Proofs.YtbhpnioggpgbhaaGreatDoor

namespace Go.Proofs.YtbhpnioggpgbhaaGreatDoor
open Go.RowKit Go.Shelf
set_option linter.unusedVariables false
set_option linter.unusedSimpArgs false
set_option maxRecDepth 100000 in
set_option maxHeartbeats 4000000 in
theorem line_any (s : ByteArray) (hs : s.size ≤ 1000) (a : Int) (w : World) : Calls Tryz.prog 90 #[.string s, .int .i64 a] w fun e w' => e = .returned (.int .i64 (lineL s.data.toList a : Nat)) ∧ w' = w := by
 by_cases h : a < 0
 ·have hl : lineL s.data.toList a = 1 := by unfold lineL; rw [if_pos h]
  rw [hl]
  clear hl
  go_enter Tryz.func90, Tryz.ntmps90
  go_wp2
  go_ret
  exact ⟨rfl, rfl⟩
 ·obtain ⟨n, rfl⟩ := Int.eq_ofNat_of_zero_le (show 0 ≤ a by omega)
  have hl : lineL s.data.toList (n : Int) = 1 + (s.extract 0 (min n s.size)).data.toList.count 10 := by
   unfold lineL
   rw [if_neg h, ext_take, show ((n : Int)).toNat = n from rfl]
   congr 2
   by_cases h2 : n ≤ s.size
   ·rw [Nat.min_eq_left h2]
   ·rw [Nat.min_eq_right (by omega), ← len_size, List.take_length, List.take_of_length_le (by rw [len_size]; omega)]
  have hb : (s.extract 0 (min n s.size)).data.toList.count 10 ≤ 1000 := by
   have h1 := line_le s.data.toList (n : Int)
   rw [hl, len_size] at h1
   omega
  rw [hl]
  obtain ⟨y, hy⟩ : ∃ y, y = s.extract 0 (min n s.size) := ⟨_, rfl⟩
  have CC := Lib.hid (count_any y 10 w)
  rw [← hy] at hb ⊢
  obtain ⟨k, hk⟩ : ∃ k, k = y.data.toList.count 10 := ⟨_, rfl⟩
  rw [← hk] at CC hb ⊢
  have hn0 : ¬ (n : Int) < 0 := by omega
  have hd0 : decide ((n : Int) < 0) = false := decide_eq_false hn0
  have HY := Lib.hid hy
  clear hl hy hk h
  go_enter Tryz.func90, Tryz.ntmps90
  go_wp2_with fail
  rw [show (min (n : Int) (s.size : Int)).toNat = min n s.size by omega, ← HY.out]
  refine CC.out.mono ?_
  rintro e w2 ⟨rfl, hw⟩
  obtain rfl : w = w2 := hw.symm
  have hsw : IntKind.i64.wrap (1 + (k : Int)) = 1 + (k : Int) := IntWalk.i64_in _ (by omega)
  clear CC hw
  go_wp2
  go_ret
  exact ⟨by go_num, rfl⟩
end Go.Proofs.YtbhpnioggpgbhaaGreatDoor

namespace Go.Proofs.YtbhpnioggpgbhaaGreatDoor
open Go Go.RowKit Go.Shelf
set_option linter.unusedVariables false
set_option linter.unusedSimpArgs false
/-- A node, and where the row of those below it lies. -/
structure NM where
 d : Nd
 a : Option Addr
 c : Nat
def NM.cells (x : NM) : List Value := [.int .i64 x.d.k, .int .i64 x.d.ln, .int .i64 x.d.n, .string (ofL x.d.s), .slice x.a x.d.l.length x.c]
def flatN (L : List NM) : List Value := L.flatMap NM.cells
theorem flatN_cons (a : NM) (L : List NM) : flatN (a :: L) = a.cells ++ flatN L := by simp [flatN]
theorem flatN_append (L M : List NM) : flatN (L ++ M) = flatN L ++ flatN M := by simp [flatN]
theorem flatN_one (x : NM) : flatN [x] = x.cells := by simp [flatN]
theorem NM.one (x : NM) : ∀ u ∈ x.cells, u.oneCell' = true := by
 intro u hu
 simp only [NM.cells, List.mem_cons, List.not_mem_nil, or_false] at hu
 rcases hu with rfl | rfl | rfl | rfl | rfl <;> rfl
/-- A row of numbers, where it lies. -/
def RdI (w : World) (a : Option Addr) (l : List Int) : Prop := 0 < l.length → ∃ b off, a = some ⟨b, off, none⟩ ∧ ∀ k, k < l.length → w.cell? ⟨b, off + k, none⟩ = some (.int .i64 (l.getD k 0))
theorem RdI.keep {w w' : World} {R : Nat → Prop} {a : Option Addr} {l : List Int} (h : RdI w a l) (hk : Keeps R w w') (hr : 0 < l.length → ∀ b off, a = some ⟨b, off, none⟩ → ¬ R b) : RdI w' a l := fun h0 => by
 obtain ⟨b, off, e, hc⟩ := h h0
 have hb : b < w.heap.size := cell_ltk (hc 0 h0)
 exact ⟨b, off, e, fun k hk2 => (hk.cell hb (hr h0 b off e)).trans (hc k hk2)⟩
theorem RdI.lt {w : World} {a : Option Addr} {l : List Int} (h : RdI w a l) (h0 : 0 < l.length) {b off : Nat} (e : a = some ⟨b, off, none⟩) : b < w.heap.size := by
 obtain ⟨b', off', e', hc⟩ := h h0
 rw [e] at e'
 cases e'
 exact cell_ltk (hc 0 h0)
theorem RdT.keepR {w w' : World} {R : Nat → Prop} {A : Option Addr} {L : List Tok} (h : RdT w A L) (hk : Keeps R w w') (hr : 0 < L.length → ∀ b off, A = some ⟨b, off, none⟩ → ¬ R b) : RdT w' A L := fun h0 => by
 obtain ⟨b, off, e, hc⟩ := h h0
 have hb : b < w.heap.size := cell_ltk (hc 0 h0).1
 have hn := hr h0 b off e
 refine ⟨b, off, e, fun k hk2 => ?_⟩
 obtain ⟨c0, c1, c2⟩ := hc k hk2
 exact ⟨(hk.cell hb hn).trans c0, (hk.cell hb hn).trans c1, (hk.cell hb hn).trans c2⟩
/-- Tokens as a lexer tells them: the last one is the end, and no other. -/
structure TokOK (T : List Tok) : Prop where
 ne : 0 < T.length
 le : T.length ≤ 1000
 last : (T.getD (T.length - 1) default).k = 0
 inner : ∀ i, i < T.length - 1 → (T.getD i default).k ≠ 0
 num : ∀ i, i < T.length → (T.getD i default).k = 1 → (T.getD i default).x ≠ [] ∧ (∀ c ∈ (T.getD i default).x, dig c = true) ∧ numV (T.getD i default).x ≤ 9223372036854775807
 long : ∀ i, i < T.length → (T.getD i default).x.length ≤ 1000
 pos : ∀ i, i < T.length → (T.getD i default).p ≤ 1000
/-- The library's variable holds an error, ahead of all that is the parser's. -/
def ErrP (P : Nat) (R : Nat → Prop) (w : World) : Prop := ∃ B0, B0 ≤ P ∧ (∀ b, R b → B0 ≤ b) ∧ ∃ g tp p, Tryz.prog.globalNamed "strconv.ErrRange" = some g ∧ g < B0 ∧ g < w.heap.size ∧ w.var? Tryz.prog "strconv.ErrRange" = some #[.iface tp p]
theorem ErrP.keep {P : Nat} {R R' S : Nat → Prop} {w w' : World} (h : ErrP P R w) (k : Keeps S w w') (hS : ∀ b, S b → R b ∨ P ≤ b) (hR : ∀ b, R' b → R b ∨ P ≤ b) : ErrP P R' w' := by
 obtain ⟨B0, hB, hr, g, tp, p, h1, h2, h3, h4⟩ := h
 have out : ∀ b, (R b ∨ P ≤ b) → B0 ≤ b := fun b hb => hb.elim (hr b) (fun hb => Nat.le_trans hB hb)
 refine ⟨B0, hB, fun b hb => out b (hR b hb), g, tp, p, h1, h2, Nat.lt_of_lt_of_le h3 k.size, ?_⟩
 unfold World.var? at h4 ⊢
 rw [h1] at h4 ⊢
 simp only [Option.bind_some] at h4 ⊢
 rw [k.block g h3 (fun hs => by have := out g (hS g hs); omega)]
 exact h4
/-- A parser in memory: at block P, in blocks of R alone. -/
structure ParX (w : World) (P : Nat) (src : ByteArray) (T : List Tok) (A : Option Addr) (cT : Nat) (R : Nat → Prop) (s : PS) (v : Value) (L : List NM) : Prop where
 c0 : w.cell? ⟨P, 0, none⟩ = some (.string src)
 c1 : w.cell? ⟨P, 1, none⟩ = some (.slice A T.length cT)
 c2 : w.cell? ⟨P, 2, none⟩ = some (.int .i64 (s.i : Int))
 c3 : w.cell? ⟨P, 3, none⟩ = some (.int .i64 (s.pl : Int))
 c4 : w.cell? ⟨P, 4, none⟩ = some (.int .i64 (s.er : Int))
 c5 : w.cell? ⟨P, 5, none⟩ = some v
 c6 : w.cell? ⟨P, 6, none⟩ = some (.int .i64 s.dp)
 fz : ∀ k, w.frozen? ⟨P, k, none⟩ = false
 lt : ∀ b, R b → b < w.heap.size
 rp : R P
 tok : RdT w A T
 tb : ∀ b off, A = some ⟨b, off, none⟩ → R b ∧ b ≠ P ∧ ∀ g, v.ownBlock = some g → b ≠ g
 own : w.ownsRow 0 41 5 v L.length (flatN L)
 vb : ∀ g, v.ownBlock = some g → R g ∧ g ≠ P
 nd : L.map NM.d = s.nd
 ls : ∀ x ∈ L, RdI w x.a x.d.l ∧ (0 < x.d.l.length → ∀ b off, x.a = some ⟨b, off, none⟩ → R b ∧ b ≠ P ∧ ∀ g, v.ownBlock = some g → b ≠ g)
 cap : ∀ x ∈ L, x.d.l.length ≤ x.c
 hi : s.i < T.length
 ok : TokOK T
 er : ErrP P R w
def Par (w : World) (P : Nat) (src : ByteArray) (T : List Tok) (R : Nat → Prop) (s : PS) : Prop := ∃ A cT v L, ParX w P src T A cT R s v L
/-- What a call may do: it writes in R alone, and what is its own behind it was so ahead of it, or is new. -/
def Fr (R : Nat → Prop) (w : World) (R' : Nat → Prop) (w' : World) : Prop := Keeps R w w' ∧ ∀ b, b < w.heap.size → R' b → R b
theorem Fr.refl (R : Nat → Prop) (w : World) : Fr R w R w := ⟨Keeps.refl _ _, fun _ _ h => h⟩
theorem Fr.trans {R R1 R2 : Nat → Prop} {w w1 w2 : World} (h : Fr R w R1 w1) (k : Fr R1 w1 R2 w2) : Fr R w R2 w2 :=
 ⟨h.1.trans k.1 (fun x hx hr => h.2 x hx hr), fun b hb hr => h.2 b hb (k.2 b (Nat.lt_of_lt_of_le hb h.1.size) hr)⟩
theorem Fr.keeps {R R1 : Nat → Prop} {w w1 w2 : World} (h : Fr R w R1 w1) (k : Keeps (fun _ => False) w1 w2) : Fr R w R1 w2 :=
 ⟨h.1.trans k (fun _ _ h => h.elim), h.2⟩
theorem Fr.local {R R1 : Nat → Prop} {w w1 : World} (h : Fr R w R1 w1) {X : Nat} (hX : w.heap.size ≤ X) (k : Nat) (u : Value) : Fr R w R1 (w1.setCell ⟨X, k, none⟩ u) :=
 ⟨h.1.setCell (p := ⟨X, k, none⟩) (fun hb => absurd (show X < w.heap.size from hb) (by omega)) u, h.2⟩
theorem ParX.lo {w : World} {P : Nat} {src : ByteArray} {T : List Tok} {A : Option Addr} {cT : Nat} {R : Nat → Prop} {s : PS} {v : Value} {L : List NM} (h : ParX w P src T A cT R s v L) : P < w.heap.size := h.lt P h.rp
theorem ParX.keepR {w w' : World} {P : Nat} {src : ByteArray} {T : List Tok} {A : Option Addr} {cT : Nat} {R : Nat → Prop} {s : PS} {v : Value} {L : List NM} (h : ParX w P src T A cT R s v L) {S : Nat → Prop} (k : Keeps S w w') (hS : ∀ b, R b → ¬ S b) (hSP : ∀ b, S b → P ≤ b) : ParX w' P src T A cT R s v L := by
 have hP := hS P h.rp
 have hlt := h.lo
 exact { c0 := (k.cell hlt hP).trans h.c0, c1 := (k.cell hlt hP).trans h.c1, c2 := (k.cell hlt hP).trans h.c2, c3 := (k.cell hlt hP).trans h.c3, c4 := (k.cell hlt hP).trans h.c4, c5 := (k.cell hlt hP).trans h.c5, c6 := (k.cell hlt hP).trans h.c6, fz := fun j => (k.frozen hlt hP).trans (h.fz j), lt := fun b hb => Nat.lt_of_lt_of_le (h.lt b hb) k.size, rp := h.rp, tok := h.tok.keepR k (fun _ b off e => hS b (h.tb b off e).1), tb := h.tb, own := ownsRow_keep h.own (fun g hg => k.block g (own_ltk h.own hg) (hS g (h.vb g hg).1)), vb := h.vb, nd := h.nd, ls := fun x hx => ⟨(h.ls x hx).1.keep k (fun h0 b off e => hS b ((h.ls x hx).2 h0 b off e).1), (h.ls x hx).2⟩, cap := h.cap, hi := h.hi, ok := h.ok, er := h.er.keep k (fun b hb => .inr (hSP b hb)) (fun b hb => .inl hb) }
theorem Par.keepR {w w' : World} {P : Nat} {src : ByteArray} {T : List Tok} {R : Nat → Prop} {s : PS} (h : Par w P src T R s) {S : Nat → Prop} (k : Keeps S w w') (hS : ∀ b, R b → ¬ S b) (hSP : ∀ b, S b → P ≤ b) : Par w' P src T R s := by
 obtain ⟨A, cT, v, L, h⟩ := h
 exact ⟨A, cT, v, L, h.keepR k hS hSP⟩
theorem Par.keep {w w' : World} {P : Nat} {src : ByteArray} {T : List Tok} {R : Nat → Prop} {s : PS} (h : Par w P src T R s) (k : Keeps (fun _ => False) w w') : Par w' P src T R s := h.keepR k (fun _ _ h => h) (fun _ h => h.elim)
theorem Par.local {w : World} {P : Nat} {src : ByteArray} {T : List Tok} {R : Nat → Prop} {s : PS} (h : Par w P src T R s) {X : Nat} (hX : ¬ R X) (hPX : P < X) (k : Nat) (u : Value) : Par (w.setCell ⟨X, k, none⟩ u) P src T R s :=
 h.keepR (S := fun b => b = X) ((Keeps.refl (fun b => b = X) w).setCell (p := ⟨X, k, none⟩) (fun _ => rfl) u) (fun b hb e => hX (e ▸ hb)) (fun b e => by have e : b = X := e; omega)
theorem Par.lt {w : World} {P : Nat} {src : ByteArray} {T : List Tok} {R : Nat → Prop} {s : PS} (h : Par w P src T R s) : ∀ b, R b → b < w.heap.size := by
 obtain ⟨A, cT, v, L, h⟩ := h
 exact h.lt
theorem Par.rp {w : World} {P : Nat} {src : ByteArray} {T : List Tok} {R : Nat → Prop} {s : PS} (h : Par w P src T R s) : R P := by
 obtain ⟨A, cT, v, L, h⟩ := h
 exact h.rp
theorem Par.lo {w : World} {P : Nat} {src : ByteArray} {T : List Tok} {R : Nat → Prop} {s : PS} (h : Par w P src T R s) : P < w.heap.size := h.lt P h.rp
theorem Par.new {w : World} {P : Nat} {src : ByteArray} {T : List Tok} {R : Nat → Prop} {s : PS} (h : Par w P src T R s) : ¬ R w.heap.size := fun hr => Nat.lt_irrefl _ (h.lt _ hr)
/-- The cell of a number is written. -/
theorem ParX.set {w : World} {P : Nat} {src : ByteArray} {T : List Tok} {A : Option Addr} {cT : Nat} {R : Nat → Prop} {s s' : PS} {v : Value} {L : List NM} (h : ParX w P src T A cT R s v L) (j : Nat) (z : Int)
  (hj : (j = 2 ∧ z = s'.i ∧ s'.pl = s.pl ∧ s'.er = s.er ∧ s'.dp = s.dp) ∨ (j = 3 ∧ z = s'.pl ∧ s'.i = s.i ∧ s'.er = s.er ∧ s'.dp = s.dp) ∨ (j = 4 ∧ z = s'.er ∧ s'.i = s.i ∧ s'.pl = s.pl ∧ s'.dp = s.dp) ∨ (j = 6 ∧ z = s'.dp ∧ s'.i = s.i ∧ s'.pl = s.pl ∧ s'.er = s.er))
  (hn : s'.nd = s.nd) (hi : s'.i < T.length) : ParX (w.setCell ⟨P, j, none⟩ (.int .i64 z)) P src T A cT R s' v L ∧ Fr R w R (w.setCell ⟨P, j, none⟩ (.int .i64 z)) := by
 have k : Keeps (fun b => b = P) w (w.setCell ⟨P, j, none⟩ (.int .i64 z)) := (Keeps.refl (fun b => b = P) w).setCell (p := ⟨P, j, none⟩) (fun _ => rfl) _
 have hlt := h.lo
 have same : ∀ i x, j = i → w.cell? ⟨P, i, none⟩ = some x → (w.setCell ⟨P, j, none⟩ (.int .i64 z)).cell? ⟨P, i, none⟩ = some (.int .i64 z) := fun i x e hx => by subst e; exact cell_same w P j _ x hx
 have oth : ∀ i x, j ≠ i → w.cell? ⟨P, i, none⟩ = some x → (w.setCell ⟨P, j, none⟩ (.int .i64 z)).cell? ⟨P, i, none⟩ = some x := fun i x e hx => (cell_other w j i _ (.inl e)).trans hx
 refine ⟨?_, k.mono (fun b _ e => by rw [e]; exact h.rp), fun _ _ h => h⟩
 refine { c0 := oth _ _ (by omega) h.c0, c1 := oth _ _ (by omega) h.c1, c2 := ?_, c3 := ?_, c4 := ?_, c5 := oth _ _ (by omega) h.c5, c6 := ?_, fz := fun i => (World.frozen?_setCell w _ _ _).trans (h.fz i), lt := fun b hb => Nat.lt_of_lt_of_le (h.lt b hb) k.size, rp := h.rp, tok := h.tok.keepR k (fun _ b off e => (h.tb b off e).2.1), tb := h.tb, own := ownsRow_keep h.own (fun g hg => k.block g (own_ltk h.own hg) (h.vb g hg).2), vb := h.vb, nd := by rw [hn]; exact h.nd, ls := fun x hx => ⟨(h.ls x hx).1.keep k (fun h0 b off e => ((h.ls x hx).2 h0 b off e).2.1), (h.ls x hx).2⟩, cap := h.cap, hi := hi, ok := h.ok, er := h.er.keep k (fun b e => .inr (by have e : b = P := e; omega)) (fun b hb => .inl hb) }
 ·rcases hj with ⟨rfl, rfl, _, _, _⟩ | ⟨rfl, _, e, _, _⟩ | ⟨rfl, _, e, _, _⟩ | ⟨rfl, _, e, _, _⟩
  ·exact same 2 _ rfl h.c2
  ·rw [e]; exact oth 2 _ (by omega) h.c2
  ·rw [e]; exact oth 2 _ (by omega) h.c2
  ·rw [e]; exact oth 2 _ (by omega) h.c2
 ·rcases hj with ⟨rfl, _, e, _, _⟩ | ⟨rfl, rfl, _, _, _⟩ | ⟨rfl, _, _, e, _⟩ | ⟨rfl, _, _, e, _⟩
  ·rw [e]; exact oth 3 _ (by omega) h.c3
  ·exact same 3 _ rfl h.c3
  ·rw [e]; exact oth 3 _ (by omega) h.c3
  ·rw [e]; exact oth 3 _ (by omega) h.c3
 ·rcases hj with ⟨rfl, _, _, e, _⟩ | ⟨rfl, _, _, e, _⟩ | ⟨rfl, rfl, _, _, _⟩ | ⟨rfl, _, _, _, e⟩
  ·rw [e]; exact oth 4 _ (by omega) h.c4
  ·rw [e]; exact oth 4 _ (by omega) h.c4
  ·exact same 4 _ rfl h.c4
  ·rw [e]; exact oth 4 _ (by omega) h.c4
 ·rcases hj with ⟨rfl, _, _, _, e⟩ | ⟨rfl, _, _, _, e⟩ | ⟨rfl, _, _, _, e⟩ | ⟨rfl, rfl, _, _, _⟩
  ·rw [e]; exact oth 6 _ (by omega) h.c6
  ·rw [e]; exact oth 6 _ (by omega) h.c6
  ·rw [e]; exact oth 6 _ (by omega) h.c6
  ·exact same 6 _ rfl h.c6
/-- What a call of the parser's leaves. -/
def Post (P : Nat) (src : ByteArray) (T : List Tok) (R : Nat → Prop) (w : World) (r : Value) (s' : PS) (e : Ending) (w' : World) : Prop :=
 e = .returned r ∧ ∃ R', Par w' P src T R' s' ∧ Fr R w R' w'
/-- A block of the call's own. -/
structure Loc (w : World) (R : Nat → Prop) (X : Nat) (vs : List Value) : Prop where
 lt : X < w.heap.size
 out : ¬ R X
 cells : ∀ k u, vs[k]? = some u → w.cell? ⟨X, k, none⟩ = some u
 fz : ∀ k, w.frozen? ⟨X, k, none⟩ = false
theorem Loc.keep {w w' : World} {R R' : Nat → Prop} {X : Nat} {vs : List Value} (h : Loc w R X vs) (f : Fr R w R' w') : Loc w' R' X vs :=
 ⟨Nat.lt_of_lt_of_le h.lt f.1.size, fun hr => h.out (f.2 X h.lt hr), fun k u hu => (f.1.cell h.lt h.out).trans (h.cells k u hu), fun k => (f.1.frozen h.lt h.out).trans (h.fz k)⟩
theorem Loc.keeps {w w' : World} {R : Nat → Prop} {X : Nat} {vs : List Value} (h : Loc w R X vs) (f : Keeps (fun _ => False) w w') : Loc w' R X vs :=
 h.keep ((Fr.refl R w).keeps f)
theorem Loc.new {w : World} {R : Nat → Prop} (hR : ¬ R w.heap.size) (vs : List Value) (t : TypeId) : Loc (w.alloc (.cells vs.toArray t)) R w.heap.size vs :=
 ⟨by simp, hR, fun k u hu => by rw [World.cell?_alloc_mark]; simpa using hu, fun k => by rw [World.frozen?_alloc_mark]; simp⟩
theorem Keeps.one (w : World) (o : Obj) : Keeps (fun _ => False) w (w.alloc o) := (Keeps.refl _ _).alloc _
end Go.Proofs.YtbhpnioggpgbhaaGreatDoor
