/-
  Layer 1: the contract of All. Written by an AI agent.
-/
import Derived.Test.YtgelggdgbmldiaaDoorLxM
import Derived.WalkMore
import Derived.Scope
namespace Go.Proofs.YtgelggdgbmldiaaDoor
open Go.RowKit Go.Shelf
set_option linter.unusedVariables false
set_option linter.unusedSimpArgs false

theorem index_run (l : List UInt8) : (Lib.indexByte l 10 = -1 ∧ runL (fun d => !decide (d = 10)) l = l.length) ∨ (Lib.indexByte l 10 = ((runL (fun d => !decide (d = 10)) l : Nat) : Int) ∧ ¬ runL (fun d => !decide (d = 10)) l = l.length) := by
  induction l with
  | nil => exact .inl ⟨rfl, rfl⟩
  | cons b l ih =>
    have hr : runL (fun d => !decide (d = 10)) (b :: l) = if b = 10 then 0 else runL (fun d => !decide (d = 10)) l + 1 := by
      show (if (!decide (b = 10)) = true then _ else 0) = _
      by_cases hb : b = 10
      · simp [hb]
      · simp [hb]
    have hi : Lib.indexByte (b :: l) 10 = if b = 10 then 0 else if Lib.indexByte l 10 = -1 then -1 else Lib.indexByte l 10 + 1 := by
      show (if (b == 10) = true then _ else if (Lib.indexByte l 10 == -1) = true then _ else _) = _
      simp
    rw [hr, hi]
    by_cases hb : b = 10
    · rw [if_pos hb, if_pos hb]
      exact .inr ⟨rfl, by rw [List.length_cons]; omega⟩
    · rw [if_neg hb, if_neg hb]
      rcases ih with ⟨h1, h2⟩ | ⟨h1, h2⟩
      · rw [if_pos h1]
        exact .inl ⟨rfl, by rw [h2, List.length_cons]⟩
      · rw [if_neg (by omega)]
        exact .inr ⟨by rw [h1]; omega, by rw [List.length_cons]; omega⟩

theorem ErrW.keepB {w w' : World} (h : ErrW w) (hk : Keeps (fun b => w.heap.size ≤ b) w w') : ErrW w' := by
  obtain ⟨b, tp, p, hg, hb, hv⟩ := h
  refine ⟨b, tp, p, hg, Nat.lt_of_lt_of_le hb hk.size, ?_⟩
  unfold World.var? at hv ⊢
  rw [hg] at hv ⊢
  simp only [Option.bind_some] at hv ⊢
  rw [hk.block b hb (fun h => by omega)]
  exact hv

/-- New tokens. -/
def NewT (L : List Tok) (w : World) (A : Option Addr) (c : Nat) (w' : World) : Prop :=
  w'.ownsRow 0 54 3 (.slice A L.length c) L.length (flatT L) ∧ (∀ g, (Value.slice A L.length c).ownBlock = some g → w.heap.size ≤ g)

/-- What All tells. -/
def AllE (l : List UInt8) (w : World) (e : Ending) (w' : World) : Prop :=
  (if 600 < l.length then e = .returned (.tuple #[.slice none 0 0, .int .i64 0, .int .i64 4])
   else match (lexL l 0).2 with
    | none => ∃ A c, e = .returned (.tuple #[.slice A (lexL l 0).1.length c, .int .i64 0, .int .i64 0]) ∧ NewT (lexL l 0).1 w A c w'
    | some (q, er) => e = .returned (.tuple #[.slice none 0 0, .int .i64 (q : Int), .int .i64 (er : Int)])) ∧ Keeps (fun _ => False) w w'

theorem kback {B : Nat} {w w' : World} (h : Keeps (fun b => B ≤ b) w w') (hB : B = w.heap.size) : Keeps (fun _ => False) w w' :=
  ⟨h.os, h.tape, h.output, h.size, fun k hk hn => h.block k hk (fun h2 => by omega)⟩

theorem tokens_le (l : List UInt8) (p : Nat) : (lexL l p).1.length ≤ l.length + 1 := by
  refine lexL_ind (P := fun l p => (lexL l p).1.length ≤ l.length + 1) ?_ ?_ ?_ ?_ ?_ ?_ l p
  · intro p; exact Nat.le_refl _
  · intro c r p h ih; rw [lexL_blank h, List.length_cons]; omega
  · intro c r p h h1 h2; rw [lexL_rem_end h h1 h2]; simp
  · intro c r p h h1 h2 ih; rw [lexL_rem h h1 h2]; rw [List.length_drop] at ih; omega
  · intro c r p h h1 h2; rw [lexL_bad h h1 h2]; simp
  · intro c r p h h1 h2 ih
    have := first_size (c :: r) (by simp) h2
    rw [lexL_tok h h1 h2]
    rw [List.length_drop] at ih
    simp only [List.length_cons] at ih this ⊢
    omega

set_option maxRecDepth 100000 in
set_option maxHeartbeats 8000000 in
theorem all_any (s : ByteArray) (hs : s.size ≤ 1000) (w : World) (he : ErrW w) : Calls Tryd.prog 24 #[.string s] w (AllE s.data.toList w) := by
  obtain ⟨l, hl⟩ : ∃ l : List UInt8, l = s.data.toList := ⟨_, rfl⟩
  obtain ⟨N, hN⟩ : ∃ N : Nat, N = s.size := ⟨_, rfl⟩
  have hlN : l.length = N := by rw [hl, hN, len_size]
  rw [← hl]
  have HL := Lib.hid hl
  have HN := Lib.hid hN
  have HLN := Lib.hid hlN
  by_cases hbig : 600 < N
  · have hbigI : (600 : Int) < (s.size : Int) := by omega
    have hd : decide ((600 : Int) < (s.size : Int)) = true := decide_eq_true hbigI
    have hfin : AllE l w (.returned (.tuple #[.slice none 0 0, .int .i64 0, .int .i64 4])) w := ⟨by rw [hlN, if_pos hbig], Keeps.refl _ _⟩
    have HF := Lib.hid hfin
    clear hl hN hlN hfin he
    go_enter Tryd.func24, Tryd.ntmps24
    go_wp2
    go_step3
    go_wp2
    rw [Exit.noGoto_ret]
    go_ret3
    exact HF.out
  have hbigI : ¬ (600 : Int) < (s.size : Int) := by omega
  have hd : decide ((600 : Int) < (s.size : Int)) = false := decide_eq_false hbigI
  have hNS : s.size = N := hN.symm
  have HNS := Lib.hid hNS
  obtain ⟨B, hB⟩ : ∃ B : Nat, B = w.heap.size := ⟨_, rfl⟩
  have HE := Lib.hid he
  have HB := Lib.hid hB
  clear hl hN hlN he hNS hB
  go_enter Tryd.func24, Tryd.ntmps24
  go_wp2
  go_step3
  go_wp2_with fail
  have k1 : Keeps (fun b => B ≤ b) w ((w.alloc (.cells #[.slice none 0 0] 46)).alloc (.cells #[.int .i64 0] 3)) := ((Keeps.refl _ _).alloc _).alloc _
  have o1 : Out ((w.alloc (.cells #[.slice none 0 0] 46)).alloc (.cells #[.int .i64 0] 3)) B w.heap.size (w.heap.size + 1) (.slice none 0 0) [] 0 :=
    ⟨by simp, by simp, by simp, by simp, World.ownsRow_nil _ _ _ _, fun g hg => by simp [Value.ownBlock] at hg, by have := HB.out; omega, by have := HB.out; omega, by omega⟩
  obtain ⟨w1, hw1⟩ : ∃ w1 : World, w1 = (w.alloc (.cells #[.slice none 0 0] 46)).alloc (.cells #[.int .i64 0] 3) := ⟨_, rfl⟩
  rw [← hw1] at k1 o1 ⊢
  clear hw1
  obtain ⟨po, hpo⟩ : ∃ po : Nat, po = w.heap.size := ⟨_, rfl⟩
  obtain ⟨pa, hpa⟩ : ∃ pa : Nat, pa = w.heap.size + 1 := ⟨_, rfl⟩
  rw [← hpa, ← hpo] at o1 ⊢
  have K1 := Lib.hid k1
  have O1 := Lib.hid o1
  clear k1 o1 hpo hpa
  go_step3
  go_wp2_with fail
  go_loopw [8] (fun s8 wr => ∃ (p : Nat) (done : List Tok) (v : Value), p ≤ N ∧ done.length ≤ p ∧ Out wr B po pa v done p ∧ lexL l 0 = (done ++ (lexL (l.drop p) p).1, (lexL (l.drop p) p).2) ∧ Keeps (fun b => B ≤ b) w wr) (fun s8 wr => N - (intOf ((wr.cell? ⟨pa, 0, none⟩).getD undef)).toNat)
  case atStart => exact ⟨0, [], _, Nat.zero_le _, Nat.zero_le _, O1.out, by rw [List.drop_zero, List.nil_append], K1.out⟩
  case round =>
    obtain ⟨p, done, v, hp, hdl, ho, hlex, kr⟩ := hrel
    have ca := ho.ca
    have fa := ho.fa
    have HO := Lib.hid ho
    have KR := Lib.hid kr
    have HLX0 := Lib.hid hlex
    clear ho kr hlex
    by_cases hpN : p < N
    · have hpS : p < s.size := by have := HNS.out; omega
      have hpI : (p : Int) < (s.size : Int) := by omega
      have hpI2 : (p : Int) ≤ (s.size : Int) := by omega
      have hp0 : (0 : Int) ≤ (p : Int) := by omega
      obtain ⟨t, ht⟩ : ∃ t : ByteArray, t = s.extract p s.size := ⟨_, rfl⟩
      have htl : t.data.toList = l.drop p := by rw [ht, HL.out]; exact ext_drop s p
      have hts : t.size = s.size - p := by rw [ht]; exact ext_size2 s p
      have ht0 : 0 < t.size := by omega
      have htI : (0 : Int) < (t.size : Int) := by omega
      obtain ⟨c, hc⟩ : ∃ c : UInt8, c = t[0] := ⟨_, rfl⟩
      obtain ⟨r, hr⟩ : ∃ r, l.drop p = c :: r := by
        have h2 := at_byte t 0 ht0
        rw [htl, ← hc] at h2
        cases hh : l.drop p with
        | nil => rw [hh] at h2; simp at h2
        | cons d r => rw [hh] at h2; exact ⟨r, by rw [show d = c by simpa using h2]⟩
      have hrl : (c :: r).length = s.size - p := by rw [← hr, ← htl, len_size, hts]
      rw [hr] at htl
      have HT := Lib.hid ht
      have HC := Lib.hid hc
      have HR := Lib.hid hr
      have HTL := Lib.hid htl
      have HTS := Lib.hid hts
      have HRL := Lib.hid hrl
      have BC := Lib.hid (tells_blk wr c)
      have HMe := Lib.hid ca
      clear ht hc hr htl hts hrl
      go_upto_region 12 with fail
      rw [← HT.out]
      cases hb : blk c with
      | true =>
        rw [hb] at BC
        have HBk := Lib.hid hb
        clear hb
        go_wp2_with fail
        rw [← HC.out]
        refine BC.out.mono ?_
        rintro e w2 ⟨rfl, k2⟩
        have o2 := HO.out.keep k2
        have g2 := o2.go (p + 1)
        rw [show ((p + 1 : Nat) : Int) = (p : Int) + 1 by omega] at g2
        have ca2 := o2.ca
        have fa2 := o2.fa
        have O3 := Lib.hid g2.1
        have K3 := Lib.hid (KR.out.trans ((k2.mono (T := fun b => B ≤ b) (fun _ _ h => h.elim)).trans g2.2 (fun _ _ h => h)) (fun _ _ h => h))
        clear o2 g2 k2 ca fa
        go_wp2
        go_roundw
        case rel => exact ⟨p + 1, done, v, by omega, by omega, O3.out, by rw [HLX0.out, HR.out, lexL_blank HBk.out, show l.drop (p + 1) = r by rw [← List.drop_drop, HR.out]; rfl], K3.out⟩
        case measure => rw [O3.out.ca, HMe.out]; simp [intOf]; omega
      | false =>
        rw [hb] at BC
        have HBk := Lib.hid hb
        clear hb
        have PX : Hid (∀ w, Calls Tryd.prog 44 #[.string t, .string { data := #[47, 47] }] w fun e w' => e = .returned (.bool (isRem (c :: r))) ∧ w' = w) := fun w => by
          have h := prefix_any t { data := #[47, 47] } w
          rw [HTL.out] at h
          exact h
        cases hrm : isRem (c :: r) with
        | true =>
          rw [hrm] at PX
          have HRm := Lib.hid hrm
          have IX : Hid (∀ w, Calls Tryd.prog 45 #[.string t, .int .u8 10] w fun e w' => e = .returned (.int .i64 (Lib.indexByte (c :: r) 10)) ∧ w' = w) := fun w => by
            have h := index_any t 10 w
            rw [HTL.out] at h
            exact h
          have hidx := index_run (c :: r)
          obtain ⟨z, hz⟩ : ∃ z : Int, z = Lib.indexByte (c :: r) 10 := ⟨_, rfl⟩
          rw [← hz] at IX hidx
          obtain ⟨q, hq⟩ : ∃ q : Nat, q = runL (fun d => !decide (d = 10)) (c :: r) := ⟨_, rfl⟩
          have hqle := runL_le (fun d => !decide (d = 10)) (c :: r)
          have hq2 := rem_size (c :: r) hrm
          rw [← hq] at hidx hqle hq2
          have hrlen := HRL.out
          have HQ := Lib.hid hq
          clear hrm hz hq
          rcases hidx with ⟨hz1, hend⟩ | ⟨hz1, hend⟩
          · subst hz1
            go_wp2_with fail
            rw [← HC.out]
            refine BC.out.mono ?_
            rintro e w2 ⟨rfl, k2⟩
            have O2 := Lib.hid (HO.out.keep k2)
            have K2 := Lib.hid (KR.out.trans k2 (T := fun _ => False) (fun _ _ h => h.elim))
            clear k2 ca fa
            go_wp2_with fail
            refine (PX.out w2).mono ?_
            rintro e w3 ⟨rfl, hw3⟩
            obtain rfl : w2 = w3 := hw3.symm
            go_wp2_with fail
            refine (IX.out _).mono ?_
            rintro e w4 ⟨rfl, hw4⟩
            obtain rfl : w2 = w4 := hw4.symm
            have hg := O2.out.go s.size
            have hlx : lexL l 0 = (done ++ [⟨0, [], s.size⟩], none) := by rw [HLX0.out, HR.out, lexL_rem_end HBk.out HRm.out (by rw [← HQ.out]; exact hend), hrlen, show p + (s.size - p) = s.size by omega]
            obtain ⟨wt, hwt⟩ : ∃ wt : World, wt = w2.setCell ⟨pa, 0, none⟩ (.int .i64 (s.size : Int)) := ⟨_, rfl⟩
            rw [← hwt] at hg
            have PC : Hid (Calls Tryd.prog 42 #[.int .i64 0, .string { data := #[] }, .int .i64 0, .pointer (some ⟨po, 0, none⟩), .pointer (some ⟨pa, 0, none⟩)] wt fun e w' => e = .returned (.tuple #[]) ∧ (∃ v', Out w' B po pa v' (done ++ [⟨0, [], s.size⟩]) (s.size + 0)) ∧ Keeps (fun b => B ≤ b) wt w') :=
              put_any wt B po pa v done s.size hg.1 (by omega) hs 0 [] 0 (by omega)
            have KT := Lib.hid (K2.out.trans hg.2 (fun _ _ h => h))
            have HLX := Lib.hid hlx
            have HWT := Lib.hid hwt
            have fa' := O2.out.fa
            have ca' := O2.out.ca
            clear hg hlx hwt
            go_wp2_with fail
            rw [← HWT.out]
            refine PC.out.mono ?_
            rintro e wu ⟨rfl, ⟨v', ou⟩, ku⟩
            obtain ⟨M, hM⟩ : ∃ M : List Tok, M = done ++ [⟨0, [], s.size⟩] := ⟨_, rfl⟩
            rw [← hM] at ou
            obtain ⟨m, hm⟩ : ∃ m : Nat, m = M.length := ⟨_, rfl⟩
            have oo := ou.own
            rw [← hm] at oo
            obtain ⟨A5, c5, rfl⟩ := own_formk oo
            have hfin : AllE l w (.returned (.tuple #[.slice A5 m c5, .int .i64 0, .int .i64 0])) wu := by
              refine ⟨?_, kback (KT.out.trans ku (fun _ _ h => h)) HB.out⟩
              rw [HLN.out, if_neg hbig, show (lexL l 0).2 = none by rw [HLX.out]]
              show ∃ A c, _ = _ ∧ _
              rw [show (lexL l 0).1 = M by rw [HLX.out, hM]]
              rw [hm] at oo ⊢
              exact ⟨A5, c5, rfl, oo, fun g hg => by rw [← hm] at hg; have h1 := (ou.hb g hg).1; have h2 := HB.out; omega⟩
            have co5 := ou.co
            have HF := Lib.hid hfin
            clear ou ku hM hm oo hfin PC fa' ca'
            go_wp2
            rw [Exit.noGoto_ret]
            go_ret3
            exact HF.out
          · have hzI : ¬ z < 0 := by omega
            have hdz : decide (z < 0) = false := decide_eq_false hzI
            subst hz1
            have swz : IntKind.i64.wrap ((p : Int) + (q : Int)) = (p : Int) + (q : Int) := IntWalk.i64_in _ (by omega)
            go_wp2_with fail
            rw [← HC.out]
            refine BC.out.mono ?_
            rintro e w2 ⟨rfl, k2⟩
            have o2 := HO.out.keep k2
            have ca2 := o2.ca
            have fa2 := o2.fa
            have g2 := o2.go (p + q)
            rw [show ((p + q : Nat) : Int) = (p : Int) + (q : Int) by omega] at g2
            have O3 := Lib.hid g2.1
            have K3 := Lib.hid (KR.out.trans ((k2.mono (T := fun b => B ≤ b) (fun _ _ h => h.elim)).trans g2.2 (fun _ _ h => h)) (fun _ _ h => h))
            clear o2 g2 k2 ca fa
            go_wp2_with fail
            refine (PX.out w2).mono ?_
            rintro e w3 ⟨rfl, hw3⟩
            obtain rfl : w2 = w3 := hw3.symm
            go_wp2_with fail
            refine (IX.out _).mono ?_
            rintro e w4 ⟨rfl, hw4⟩
            obtain rfl : w2 = w4 := hw4.symm
            go_wp2
            go_roundw
            case rel => exact ⟨p + q, done, v, by have := HNS.out; omega, by omega, O3.out, by rw [HLX0.out, HR.out, lexL_rem HBk.out HRm.out (by rw [← HQ.out]; exact hend), ← HQ.out, show l.drop (p + q) = (c :: r).drop q by rw [← List.drop_drop, HR.out]], K3.out⟩
            case measure => rw [O3.out.ca, HMe.out]; simp [intOf]; omega
        | false =>
          rw [hrm] at PX
          have HRm := Lib.hid hrm
          have FX : Hid (∀ w', ErrW w' → Triple 46 t (firstL (c :: r)) w') := fun w' h => by
            have h2 := first_any t (by have := HTS.out; omega) ht0 w' h
            rw [HTL.out] at h2
            exact h2
          have hsz := first_size (c :: r) (by simp)
          have hgood := fun h3 => (first_good p HBk.out hrm h3).1
          obtain ⟨R, hRR⟩ : ∃ R : Nat × Nat × Nat, R = firstL (c :: r) := ⟨_, rfl⟩
          rw [← hRR] at FX hsz hgood
          obtain ⟨Rk, Rn, Re⟩ := R
          have HRR := Lib.hid hRR
          have hrlen := HRL.out
          clear hrm hRR
          by_cases hRe : Re = 0
          · have hz2 := hsz hRe
            have hz2 : 1 ≤ Rn ∧ Rn ≤ (c :: r).length := hz2
            have hgd := hgood hRe
            have hkk : Rk = 2 → 2 ≤ Rn := fun h => by
              have h1 := (first_good p HBk.out HRm.out (by rw [← HRR.out]; exact hRe)).2
              have h2 := congrArg List.length h1
              rw [List.length_take, ← HRR.out] at h2
              unfold tokB at h2
              rw [if_pos (show (⟨Rk, _, p⟩ : Tok).k = 2 from h)] at h2
              simp only [List.length_cons, List.length_append, List.length_nil] at h2
              simp only [List.length_cons] at hz2
              omega
            have hRn : Rn ≤ 1000 := by omega
            have hRnI : (Rn : Int) ≤ (t.size : Int) := by have := HTS.out; omega
            have hRn0 : (0 : Int) ≤ (Rn : Int) := by omega
            have SX : Hid (∀ w', Calls Tryd.prog 47 #[.int .i64 (Rk : Int), .string (t.extract 0 Rn)] w' fun e w'' => e = .returned (.string (ofL (saidL Rk ((c :: r).take Rn)))) ∧ Keeps (fun _ => False) w' w'') := fun w' => by
              have hle : Rn ≤ t.size := by omega
              have h := said_any Rk (t.extract 0 Rn) (fun h => by rw [ext_size t Rn hle]; exact hkk h) (by rw [ext_size t Rn hle]; exact hRn) w'
              rw [ext_take, HTL.out] at h
              exact h
            have hlt := lexL_tok (p := p) HBk.out HRm.out (by rw [← HRR.out]; exact hRe)
            rw [← HRR.out] at hlt
            have HLT := Lib.hid hlt
            obtain ⟨X, hX⟩ : ∃ X : List UInt8, X = saidL Rk ((c :: r).take Rn) := ⟨_, rfl⟩
            have HX := Lib.hid hX
            rw [← hX] at SX
            subst hRe
            clear hlt hX hsz hgood hgd hkk
            go_wp2_with fail
            rw [← HC.out]
            refine BC.out.mono ?_
            rintro e w2 ⟨rfl, k2⟩
            have O2 := Lib.hid (HO.out.keep k2)
            have k2' := KR.out.trans k2 (T := fun _ => False) (fun _ _ h => h.elim)
            have F2 := Lib.hid (FX.out w2 (HE.out.keepB (by rw [← HB.out]; exact k2')))
            have K2 := Lib.hid k2'
            clear k2 k2' ca fa FX
            go_wp2_with fail
            refine (PX.out w2).mono ?_
            rintro e w3 ⟨rfl, hw3⟩
            obtain rfl : w2 = w3 := hw3.symm
            go_wp2_with fail
            refine F2.out.mono ?_
            rintro e w4 ⟨rfl, k4⟩
            have O4 := Lib.hid (O2.out.keep k4)
            have K4 := Lib.hid (K2.out.trans k4 (T := fun _ => False) (fun _ _ h => h.elim))
            clear k4 F2 PX
            go_wp2_with fail
            refine (SX.out w4).mono ?_
            rintro e w5 ⟨rfl, k5⟩
            have O5 := Lib.hid (O4.out.keep k5)
            have K5 := Lib.hid (K4.out.trans k5 (T := fun _ => False) (fun _ _ h => h.elim))
            have PC := Lib.hid (put_any w5 B po pa v done p O5.out (by omega) (by omega) Rk X Rn hRn)
            clear k5 SX
            go_wp2_with fail
            refine PC.out.mono ?_
            rintro e w6 ⟨rfl, ⟨v', o6⟩, k6⟩
            have O6 := Lib.hid o6
            have K6 := Lib.hid (K5.out.trans k6 (fun _ _ h => h))
            clear o6 k6 PC
            go_wp2
            go_roundw
            case rel => exact ⟨p + Rn, done ++ [⟨Rk, X, p⟩], v', by have := HNS.out; omega, by rw [List.length_append, List.length_singleton]; omega, O6.out, by
              rw [HLX0.out, HR.out, HLT.out, show l.drop (p + Rn) = (c :: r).drop Rn by rw [← List.drop_drop, HR.out], HX.out]
              simp, K6.out⟩
            case measure => rw [O6.out.ca, HMe.out]; simp [intOf]; omega
          · have hb : ((Re : Int) != 0) = true := bne_iff_ne.2 (by omega)
            have hlb := lexL_bad (p := p) HBk.out HRm.out (by rw [← HRR.out]; exact hRe)
            rw [← HRR.out] at hlb
            have hfin : ∀ w', Keeps (fun b => B ≤ b) w w' → AllE l w (.returned (.tuple #[.slice none 0 0, .int .i64 (p : Int), .int .i64 (Re : Int)])) w' := fun w' hk => by
              refine ⟨?_, kback hk HB.out⟩
              rw [HLN.out, if_neg hbig, show (lexL l 0).2 = some (p, Re) by rw [HLX0.out, HR.out, hlb]]
            have HF := Lib.hid hfin
            clear hlb hfin hsz hgood hRe
            go_wp2_with fail
            rw [← HC.out]
            refine BC.out.mono ?_
            rintro e w2 ⟨rfl, k2⟩
            have O2 := Lib.hid (HO.out.keep k2)
            have k2' := KR.out.trans k2 (T := fun _ => False) (fun _ _ h => h.elim)
            have F2 := Lib.hid (FX.out w2 (HE.out.keepB (by rw [← HB.out]; exact k2')))
            have K2 := Lib.hid k2'
            clear k2 k2' ca fa FX
            go_wp2_with fail
            refine (PX.out w2).mono ?_
            rintro e w3 ⟨rfl, hw3⟩
            obtain rfl : w2 = w3 := hw3.symm
            go_wp2_with fail
            refine F2.out.mono ?_
            rintro e w4 ⟨rfl, k4⟩
            have O4 := Lib.hid (O2.out.keep k4)
            have ca4 := O4.out.ca
            have K4 := Lib.hid (K2.out.trans k4 (T := fun _ => False) (fun _ _ h => h.elim))
            clear k4 F2 PX
            go_wp2_with fail
            go_quiet (fail)
            go_wp2
            rw [Exit.noGoto_ret]
            go_ret3
            exact HF.out _ (K4.out.trans (drew_keeps _ _) (fun _ _ h => h.elim))
    · have hpe : p = N := by omega
      have hpI : ¬ (p : Int) < (s.size : Int) := by have := HNS.out; omega
      have hdd : decide ((p : Int) < (s.size : Int)) = false := decide_eq_false hpI
      have hps : p = s.size := by have := HNS.out; omega
      have HPS := Lib.hid hps
      clear hps hpe
      have hg := HO.out.go s.size
      have hlx : lexL l 0 = (done ++ [⟨0, [], s.size⟩], none) := by rw [HLX0.out, HPS.out, show l.drop s.size = [] by rw [HL.out]; exact List.drop_of_length_le (by rw [len_size]; exact Nat.le_refl _), lexL_nil]
      obtain ⟨wt, hwt⟩ : ∃ wt : World, wt = wr.setCell ⟨pa, 0, none⟩ (.int .i64 (s.size : Int)) := ⟨_, rfl⟩
      rw [← hwt] at hg
      have PC : Hid (Calls Tryd.prog 42 #[.int .i64 0, .string { data := #[] }, .int .i64 0, .pointer (some ⟨po, 0, none⟩), .pointer (some ⟨pa, 0, none⟩)] wt fun e w' => e = .returned (.tuple #[]) ∧ (∃ v', Out w' B po pa v' (done ++ [⟨0, [], s.size⟩]) (s.size + 0)) ∧ Keeps (fun b => B ≤ b) wt w') :=
        put_any wt B po pa v done s.size hg.1 (by omega) hs 0 [] 0 (by omega)
      have KT := Lib.hid (KR.out.trans hg.2 (fun _ _ h => h))
      have HLX := Lib.hid hlx
      have HWT := Lib.hid hwt
      have fa' := HO.out.fa
      have ca' := HO.out.ca
      clear hg hlx hwt
      go_wp2_with fail
      rw [← HWT.out]
      refine PC.out.mono ?_
      rintro e wu ⟨rfl, ⟨v', ou⟩, ku⟩
      obtain ⟨M, hM⟩ : ∃ M : List Tok, M = done ++ [⟨0, [], s.size⟩] := ⟨_, rfl⟩
      rw [← hM] at ou
      obtain ⟨m, hm⟩ : ∃ m : Nat, m = M.length := ⟨_, rfl⟩
      have oo := ou.own
      rw [← hm] at oo
      obtain ⟨A5, c5, rfl⟩ := own_formk oo
      have hfin : AllE l w (.returned (.tuple #[.slice A5 m c5, .int .i64 0, .int .i64 0])) wu := by
        refine ⟨?_, kback (KT.out.trans ku (fun _ _ h => h)) HB.out⟩
        rw [HLN.out, if_neg hbig, show (lexL l 0).2 = none by rw [HLX.out]]
        show ∃ A c, _ = _ ∧ _
        rw [show (lexL l 0).1 = M by rw [HLX.out, hM]]
        rw [hm] at oo ⊢
        exact ⟨A5, c5, rfl, oo, fun g hg => by rw [← hm] at hg; have h1 := (ou.hb g hg).1; have h2 := HB.out; omega⟩
      have co5 := ou.co
      have HF := Lib.hid hfin
      clear ou ku hM hm oo hfin PC fa' ca'
      go_wp2
      rw [Exit.noGoto_ret]
      go_ret3
      exact HF.out

end Go.Proofs.YtgelggdgbmldiaaDoor
