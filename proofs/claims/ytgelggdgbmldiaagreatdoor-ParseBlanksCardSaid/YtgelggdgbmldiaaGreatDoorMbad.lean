/-
  Layer 1: the contract of All. Written by an AI agent.
  Layer 1: what All tells, case by case; the document's example; short. Written by an AI agent.
  Layer 1: lines of a source, as data. Written by an AI agent.
  Layer 1: the line of a place. Written by an AI agent.
  Layer 1: the contracts of the document's digit, letter, Word, Line, number. Written by an AI agent.
-/
import Derived.Test.YtgelggdgbmldiaaGreatDoorMbac
import Derived.WalkMore
import Derived.Scope
import Derived.Test.YtgelggdgbmldiaaGreatDoorMbaa
import Derived.BigQuiet
namespace Go.Proofs.YtgelggdgbmldiaaGreatDoor
open Go.RowKit Go.Shelf
set_option linter.unusedVariables false
set_option linter.unusedSimpArgs false

theorem index_run (l : List UInt8) : (Lib.indexByte l 10 = -1 ∧ runL (fun d => !decide (d = 10)) l = l.length) ∨ (Lib.indexByte l 10 = ((runL (fun d => !decide (d = 10)) l : Nat) : Int) ∧ ¬ runL (fun d => !decide (d = 10)) l = l.length) := by
  induction l with
  | nil => exact .inl ⟨rfl, rfl⟩
  | cons b l ih =>
    have hr : runL (fun d => !decide (d = 10)) (b :: l) = if b = 10 then 0 else runL (fun d => !decide (d = 10)) l + 1 := by
      show (if (!decide (b = 10)) = true then _ else 0) = _
      by_cases hb : b = 10
      · simp [hb]
      · simp [hb]
    have hi : Lib.indexByte (b :: l) 10 = if b = 10 then 0 else if Lib.indexByte l 10 = -1 then -1 else Lib.indexByte l 10 + 1 := by
      show (if (b == 10) = true then _ else if (Lib.indexByte l 10 == -1) = true then _ else _) = _
      simp
    rw [hr, hi]
    by_cases hb : b = 10
    · rw [if_pos hb, if_pos hb]
      exact .inr ⟨rfl, by rw [List.length_cons]; omega⟩
    · rw [if_neg hb, if_neg hb]
      rcases ih with ⟨h1, h2⟩ | ⟨h1, h2⟩
      · rw [if_pos h1]
        exact .inl ⟨rfl, by rw [h2, List.length_cons]⟩
      · rw [if_neg (by omega)]
        exact .inr ⟨by rw [h1]; omega, by rw [List.length_cons]; omega⟩

theorem ErrW.keepB {w w' : World} (h : ErrW w) (hk : Keeps (fun b => w.heap.size ≤ b) w w') : ErrW w' := by
  obtain ⟨b, tp, p, hg, hb, hv⟩ := h
  refine ⟨b, tp, p, hg, Nat.lt_of_lt_of_le hb hk.size, ?_⟩
  unfold World.var? at hv ⊢
  rw [hg] at hv ⊢
  simp only [Option.bind_some] at hv ⊢
  rw [hk.block b hb (fun h => by omega)]
  exact hv

/-- New tokens. -/
def NewT (L : List Tok) (w : World) (A : Option Addr) (c : Nat) (w' : World) : Prop :=
  w'.ownsRow 0 38 3 (.slice A L.length c) L.length (flatT L) ∧ (∀ g, (Value.slice A L.length c).ownBlock = some g → w.heap.size ≤ g)

/-- What All tells. -/
def AllE (l : List UInt8) (w : World) (e : Ending) (w' : World) : Prop :=
  (if 600 < l.length then e = .returned (.tuple #[.slice none 0 0, .int .i64 0, .int .i64 4])
   else match (lexL l 0).2 with
    | none => ∃ A c, e = .returned (.tuple #[.slice A (lexL l 0).1.length c, .int .i64 0, .int .i64 0]) ∧ NewT (lexL l 0).1 w A c w'
    | some (q, er) => e = .returned (.tuple #[.slice none 0 0, .int .i64 (q : Int), .int .i64 (er : Int)])) ∧ Keeps (fun _ => False) w w'

theorem kback {B : Nat} {w w' : World} (h : Keeps (fun b => B ≤ b) w w') (hB : B = w.heap.size) : Keeps (fun _ => False) w w' :=
  ⟨h.os, h.tape, h.output, h.size, fun k hk hn => h.block k hk (fun h2 => by omega)⟩

theorem tokens_le (l : List UInt8) (p : Nat) : (lexL l p).1.length ≤ l.length + 1 := by
  refine lexL_ind (P := fun l p => (lexL l p).1.length ≤ l.length + 1) ?_ ?_ ?_ ?_ ?_ ?_ l p
  · intro p; exact Nat.le_refl _
  · intro c r p h ih; rw [lexL_blank h, List.length_cons]; omega
  · intro c r p h h1 h2; rw [lexL_rem_end h h1 h2]; simp
  · intro c r p h h1 h2 ih; rw [lexL_rem h h1 h2]; rw [List.length_drop] at ih; omega
  · intro c r p h h1 h2; rw [lexL_bad h h1 h2]; simp
  · intro c r p h h1 h2 ih
    have := first_size (c :: r) (by simp) h2
    rw [lexL_tok h h1 h2]
    rw [List.length_drop] at ih
    simp only [List.length_cons] at ih this ⊢
    omega

set_option maxRecDepth 100000 in
set_option maxHeartbeats 8000000 in
theorem all_any (s : ByteArray) (hs : s.size ≤ 1000) (w : World) (he : ErrW w) : Calls Tryz.prog 14 #[.string s] w (AllE s.data.toList w) := by
  obtain ⟨l, hl⟩ : ∃ l : List UInt8, l = s.data.toList := ⟨_, rfl⟩
  obtain ⟨N, hN⟩ : ∃ N : Nat, N = s.size := ⟨_, rfl⟩
  have hlN : l.length = N := by rw [hl, hN, len_size]
  rw [← hl]
  have HL := Lib.hid hl
  have HN := Lib.hid hN
  have HLN := Lib.hid hlN
  by_cases hbig : 600 < N
  · have hbigI : (600 : Int) < (s.size : Int) := by omega
    have hd : decide ((600 : Int) < (s.size : Int)) = true := decide_eq_true hbigI
    have hfin : AllE l w (.returned (.tuple #[.slice none 0 0, .int .i64 0, .int .i64 4])) w := ⟨by rw [hlN, if_pos hbig], Keeps.refl _ _⟩
    have HF := Lib.hid hfin
    clear hl hN hlN hfin he
    go_enter Tryz.func14, Tryz.ntmps14
    go_wp2
    go_step3
    go_wp2
    rw [Exit.noGoto_ret]
    go_ret3
    exact HF.out
  have hbigI : ¬ (600 : Int) < (s.size : Int) := by omega
  have hd : decide ((600 : Int) < (s.size : Int)) = false := decide_eq_false hbigI
  have hNS : s.size = N := hN.symm
  have HNS := Lib.hid hNS
  obtain ⟨B, hB⟩ : ∃ B : Nat, B = w.heap.size := ⟨_, rfl⟩
  have HE := Lib.hid he
  have HB := Lib.hid hB
  clear hl hN hlN he hNS hB
  go_enter Tryz.func14, Tryz.ntmps14
  go_wp2
  go_step3
  go_wp2_with fail
  have k1 : Keeps (fun b => B ≤ b) w ((w.alloc (.cells #[.slice none 0 0] 34)).alloc (.cells #[.int .i64 0] 3)) := ((Keeps.refl _ _).alloc _).alloc _
  have o1 : Out ((w.alloc (.cells #[.slice none 0 0] 34)).alloc (.cells #[.int .i64 0] 3)) B w.heap.size (w.heap.size + 1) (.slice none 0 0) [] 0 :=
    ⟨by simp, by simp, by simp, by simp, World.ownsRow_nil _ _ _ _, fun g hg => by simp [Value.ownBlock] at hg, by have := HB.out; omega, by have := HB.out; omega, by omega⟩
  obtain ⟨w1, hw1⟩ : ∃ w1 : World, w1 = (w.alloc (.cells #[.slice none 0 0] 34)).alloc (.cells #[.int .i64 0] 3) := ⟨_, rfl⟩
  rw [← hw1] at k1 o1 ⊢
  clear hw1
  obtain ⟨po, hpo⟩ : ∃ po : Nat, po = w.heap.size := ⟨_, rfl⟩
  obtain ⟨pa, hpa⟩ : ∃ pa : Nat, pa = w.heap.size + 1 := ⟨_, rfl⟩
  rw [← hpa, ← hpo] at o1 ⊢
  have K1 := Lib.hid k1
  have O1 := Lib.hid o1
  clear k1 o1 hpo hpa
  go_step3
  go_wp2_with fail
  go_loopw [8] (fun s8 wr => ∃ (p : Nat) (done : List Tok) (v : Value), p ≤ N ∧ done.length ≤ p ∧ Out wr B po pa v done p ∧ lexL l 0 = (done ++ (lexL (l.drop p) p).1, (lexL (l.drop p) p).2) ∧ Keeps (fun b => B ≤ b) w wr) (fun s8 wr => N - (intOf ((wr.cell? ⟨pa, 0, none⟩).getD undef)).toNat)
  case atStart => exact ⟨0, [], _, Nat.zero_le _, Nat.zero_le _, O1.out, by rw [List.drop_zero, List.nil_append], K1.out⟩
  case round =>
    obtain ⟨p, done, v, hp, hdl, ho, hlex, kr⟩ := hrel
    have ca := ho.ca
    have fa := ho.fa
    have HO := Lib.hid ho
    have KR := Lib.hid kr
    have HLX0 := Lib.hid hlex
    clear ho kr hlex
    by_cases hpN : p < N
    · have hpS : p < s.size := by have := HNS.out; omega
      have hpI : (p : Int) < (s.size : Int) := by omega
      have hpI2 : (p : Int) ≤ (s.size : Int) := by omega
      have hp0 : (0 : Int) ≤ (p : Int) := by omega
      obtain ⟨t, ht⟩ : ∃ t : ByteArray, t = s.extract p s.size := ⟨_, rfl⟩
      have htl : t.data.toList = l.drop p := by rw [ht, HL.out]; exact ext_drop s p
      have hts : t.size = s.size - p := by rw [ht]; exact ext_size2 s p
      have ht0 : 0 < t.size := by omega
      have htI : (0 : Int) < (t.size : Int) := by omega
      obtain ⟨c, hc⟩ : ∃ c : UInt8, c = t[0] := ⟨_, rfl⟩
      obtain ⟨r, hr⟩ : ∃ r, l.drop p = c :: r := by
        have h2 := at_byte t 0 ht0
        rw [htl, ← hc] at h2
        cases hh : l.drop p with
        | nil => rw [hh] at h2; simp at h2
        | cons d r => rw [hh] at h2; exact ⟨r, by rw [show d = c by simpa using h2]⟩
      have hrl : (c :: r).length = s.size - p := by rw [← hr, ← htl, len_size, hts]
      rw [hr] at htl
      have HT := Lib.hid ht
      have HC := Lib.hid hc
      have HR := Lib.hid hr
      have HTL := Lib.hid htl
      have HTS := Lib.hid hts
      have HRL := Lib.hid hrl
      have BC := Lib.hid (tells_blk wr c)
      have HMe := Lib.hid ca
      clear ht hc hr htl hts hrl
      go_upto_region 12 with fail
      rw [← HT.out]
      cases hb : blk c with
      | true =>
        rw [hb] at BC
        have HBk := Lib.hid hb
        clear hb
        go_wp2_with fail
        rw [← HC.out]
        refine BC.out.mono ?_
        rintro e w2 ⟨rfl, k2⟩
        have o2 := HO.out.keep k2
        have g2 := o2.go (p + 1)
        rw [show ((p + 1 : Nat) : Int) = (p : Int) + 1 by omega] at g2
        have ca2 := o2.ca
        have fa2 := o2.fa
        have O3 := Lib.hid g2.1
        have K3 := Lib.hid (KR.out.trans ((k2.mono (T := fun b => B ≤ b) (fun _ _ h => h.elim)).trans g2.2 (fun _ _ h => h)) (fun _ _ h => h))
        clear o2 g2 k2 ca fa
        go_wp2
        go_roundw
        case rel => exact ⟨p + 1, done, v, by omega, by omega, O3.out, by rw [HLX0.out, HR.out, lexL_blank HBk.out, show l.drop (p + 1) = r by rw [← List.drop_drop, HR.out]; rfl], K3.out⟩
        case measure => rw [O3.out.ca, HMe.out]; simp [intOf]; omega
      | false =>
        rw [hb] at BC
        have HBk := Lib.hid hb
        clear hb
        have PX : Hid (∀ w, Calls Tryz.prog 24 #[.string t, .string { data := #[47, 47] }] w fun e w' => e = .returned (.bool (isRem (c :: r))) ∧ w' = w) := fun w => by
          have h := prefix_any t { data := #[47, 47] } w
          rw [HTL.out] at h
          exact h
        cases hrm : isRem (c :: r) with
        | true =>
          rw [hrm] at PX
          have HRm := Lib.hid hrm
          have IX : Hid (∀ w, Calls Tryz.prog 25 #[.string t, .int .u8 10] w fun e w' => e = .returned (.int .i64 (Lib.indexByte (c :: r) 10)) ∧ w' = w) := fun w => by
            have h := index_any t 10 w
            rw [HTL.out] at h
            exact h
          have hidx := index_run (c :: r)
          obtain ⟨z, hz⟩ : ∃ z : Int, z = Lib.indexByte (c :: r) 10 := ⟨_, rfl⟩
          rw [← hz] at IX hidx
          obtain ⟨q, hq⟩ : ∃ q : Nat, q = runL (fun d => !decide (d = 10)) (c :: r) := ⟨_, rfl⟩
          have hqle := runL_le (fun d => !decide (d = 10)) (c :: r)
          have hq2 := rem_size (c :: r) hrm
          rw [← hq] at hidx hqle hq2
          have hrlen := HRL.out
          have HQ := Lib.hid hq
          clear hrm hz hq
          rcases hidx with ⟨hz1, hend⟩ | ⟨hz1, hend⟩
          · subst hz1
            go_wp2_with fail
            rw [← HC.out]
            refine BC.out.mono ?_
            rintro e w2 ⟨rfl, k2⟩
            have O2 := Lib.hid (HO.out.keep k2)
            have K2 := Lib.hid (KR.out.trans k2 (T := fun _ => False) (fun _ _ h => h.elim))
            clear k2 ca fa
            go_wp2_with fail
            refine (PX.out w2).mono ?_
            rintro e w3 ⟨rfl, hw3⟩
            obtain rfl : w2 = w3 := hw3.symm
            go_wp2_with fail
            refine (IX.out _).mono ?_
            rintro e w4 ⟨rfl, hw4⟩
            obtain rfl : w2 = w4 := hw4.symm
            have hg := O2.out.go s.size
            have hlx : lexL l 0 = (done ++ [⟨0, [], s.size⟩], none) := by rw [HLX0.out, HR.out, lexL_rem_end HBk.out HRm.out (by rw [← HQ.out]; exact hend), hrlen, show p + (s.size - p) = s.size by omega]
            obtain ⟨wt, hwt⟩ : ∃ wt : World, wt = w2.setCell ⟨pa, 0, none⟩ (.int .i64 (s.size : Int)) := ⟨_, rfl⟩
            rw [← hwt] at hg
            have PC : Hid (Calls Tryz.prog 22 #[.int .i64 0, .string { data := #[] }, .int .i64 0, .pointer (some ⟨po, 0, none⟩), .pointer (some ⟨pa, 0, none⟩)] wt fun e w' => e = .returned (.tuple #[]) ∧ (∃ v', Out w' B po pa v' (done ++ [⟨0, [], s.size⟩]) (s.size + 0)) ∧ Keeps (fun b => B ≤ b) wt w') :=
              put_any wt B po pa v done s.size hg.1 (by omega) hs 0 [] 0 (by omega)
            have KT := Lib.hid (K2.out.trans hg.2 (fun _ _ h => h))
            have HLX := Lib.hid hlx
            have HWT := Lib.hid hwt
            have fa' := O2.out.fa
            have ca' := O2.out.ca
            clear hg hlx hwt
            go_wp2_with fail
            rw [← HWT.out]
            refine PC.out.mono ?_
            rintro e wu ⟨rfl, ⟨v', ou⟩, ku⟩
            obtain ⟨M, hM⟩ : ∃ M : List Tok, M = done ++ [⟨0, [], s.size⟩] := ⟨_, rfl⟩
            rw [← hM] at ou
            obtain ⟨m, hm⟩ : ∃ m : Nat, m = M.length := ⟨_, rfl⟩
            have oo := ou.own
            rw [← hm] at oo
            obtain ⟨A5, c5, rfl⟩ := own_formk oo
            have hfin : AllE l w (.returned (.tuple #[.slice A5 m c5, .int .i64 0, .int .i64 0])) wu := by
              refine ⟨?_, kback (KT.out.trans ku (fun _ _ h => h)) HB.out⟩
              rw [HLN.out, if_neg hbig, show (lexL l 0).2 = none by rw [HLX.out]]
              show ∃ A c, _ = _ ∧ _
              rw [show (lexL l 0).1 = M by rw [HLX.out, hM]]
              rw [hm] at oo ⊢
              exact ⟨A5, c5, rfl, oo, fun g hg => by rw [← hm] at hg; have h1 := (ou.hb g hg).1; have h2 := HB.out; omega⟩
            have co5 := ou.co
            have HF := Lib.hid hfin
            clear ou ku hM hm oo hfin PC fa' ca'
            go_wp2
            rw [Exit.noGoto_ret]
            go_ret3
            exact HF.out
          · have hzI : ¬ z < 0 := by omega
            have hdz : decide (z < 0) = false := decide_eq_false hzI
            subst hz1
            have swz : IntKind.i64.wrap ((p : Int) + (q : Int)) = (p : Int) + (q : Int) := IntWalk.i64_in _ (by omega)
            go_wp2_with fail
            rw [← HC.out]
            refine BC.out.mono ?_
            rintro e w2 ⟨rfl, k2⟩
            have o2 := HO.out.keep k2
            have ca2 := o2.ca
            have fa2 := o2.fa
            have g2 := o2.go (p + q)
            rw [show ((p + q : Nat) : Int) = (p : Int) + (q : Int) by omega] at g2
            have O3 := Lib.hid g2.1
            have K3 := Lib.hid (KR.out.trans ((k2.mono (T := fun b => B ≤ b) (fun _ _ h => h.elim)).trans g2.2 (fun _ _ h => h)) (fun _ _ h => h))
            clear o2 g2 k2 ca fa
            go_wp2_with fail
            refine (PX.out w2).mono ?_
            rintro e w3 ⟨rfl, hw3⟩
            obtain rfl : w2 = w3 := hw3.symm
            go_wp2_with fail
            refine (IX.out _).mono ?_
            rintro e w4 ⟨rfl, hw4⟩
            obtain rfl : w2 = w4 := hw4.symm
            go_wp2
            go_roundw
            case rel => exact ⟨p + q, done, v, by have := HNS.out; omega, by omega, O3.out, by rw [HLX0.out, HR.out, lexL_rem HBk.out HRm.out (by rw [← HQ.out]; exact hend), ← HQ.out, show l.drop (p + q) = (c :: r).drop q by rw [← List.drop_drop, HR.out]], K3.out⟩
            case measure => rw [O3.out.ca, HMe.out]; simp [intOf]; omega
        | false =>
          rw [hrm] at PX
          have HRm := Lib.hid hrm
          have FX : Hid (∀ w', ErrW w' → Triple 26 t (firstL (c :: r)) w') := fun w' h => by
            have h2 := first_any t (by have := HTS.out; omega) ht0 w' h
            rw [HTL.out] at h2
            exact h2
          have hsz := first_size (c :: r) (by simp)
          have hgood := fun h3 => (first_good p HBk.out hrm h3).1
          obtain ⟨R, hRR⟩ : ∃ R : Nat × Nat × Nat, R = firstL (c :: r) := ⟨_, rfl⟩
          rw [← hRR] at FX hsz hgood
          obtain ⟨Rk, Rn, Re⟩ := R
          have HRR := Lib.hid hRR
          have hrlen := HRL.out
          clear hrm hRR
          by_cases hRe : Re = 0
          · have hz2 := hsz hRe
            have hz2 : 1 ≤ Rn ∧ Rn ≤ (c :: r).length := hz2
            have hgd := hgood hRe
            have hkk : Rk = 2 → 2 ≤ Rn := fun h => by
              have h1 := (first_good p HBk.out HRm.out (by rw [← HRR.out]; exact hRe)).2
              have h2 := congrArg List.length h1
              rw [List.length_take, ← HRR.out] at h2
              unfold tokB at h2
              rw [if_pos (show (⟨Rk, _, p⟩ : Tok).k = 2 from h)] at h2
              simp only [List.length_cons, List.length_append, List.length_nil] at h2
              simp only [List.length_cons] at hz2
              omega
            have hRn : Rn ≤ 1000 := by omega
            have hRnI : (Rn : Int) ≤ (t.size : Int) := by have := HTS.out; omega
            have hRn0 : (0 : Int) ≤ (Rn : Int) := by omega
            have SX : Hid (∀ w', Calls Tryz.prog 27 #[.int .i64 (Rk : Int), .string (t.extract 0 Rn)] w' fun e w'' => e = .returned (.string (ofL (saidL Rk ((c :: r).take Rn)))) ∧ Keeps (fun _ => False) w' w'') := fun w' => by
              have hle : Rn ≤ t.size := by omega
              have h := said_any Rk (t.extract 0 Rn) (fun h => by rw [ext_size t Rn hle]; exact hkk h) (by rw [ext_size t Rn hle]; exact hRn) w'
              rw [ext_take, HTL.out] at h
              exact h
            have hlt := lexL_tok (p := p) HBk.out HRm.out (by rw [← HRR.out]; exact hRe)
            rw [← HRR.out] at hlt
            have HLT := Lib.hid hlt
            obtain ⟨X, hX⟩ : ∃ X : List UInt8, X = saidL Rk ((c :: r).take Rn) := ⟨_, rfl⟩
            have HX := Lib.hid hX
            rw [← hX] at SX
            subst hRe
            clear hlt hX hsz hgood hgd hkk
            go_wp2_with fail
            rw [← HC.out]
            refine BC.out.mono ?_
            rintro e w2 ⟨rfl, k2⟩
            have O2 := Lib.hid (HO.out.keep k2)
            have k2' := KR.out.trans k2 (T := fun _ => False) (fun _ _ h => h.elim)
            have F2 := Lib.hid (FX.out w2 (HE.out.keepB (by rw [← HB.out]; exact k2')))
            have K2 := Lib.hid k2'
            clear k2 k2' ca fa FX
            go_wp2_with fail
            refine (PX.out w2).mono ?_
            rintro e w3 ⟨rfl, hw3⟩
            obtain rfl : w2 = w3 := hw3.symm
            go_wp2_with fail
            refine F2.out.mono ?_
            rintro e w4 ⟨rfl, k4⟩
            have O4 := Lib.hid (O2.out.keep k4)
            have K4 := Lib.hid (K2.out.trans k4 (T := fun _ => False) (fun _ _ h => h.elim))
            clear k4 F2 PX
            go_wp2_with fail
            refine (SX.out w4).mono ?_
            rintro e w5 ⟨rfl, k5⟩
            have O5 := Lib.hid (O4.out.keep k5)
            have K5 := Lib.hid (K4.out.trans k5 (T := fun _ => False) (fun _ _ h => h.elim))
            have PC := Lib.hid (put_any w5 B po pa v done p O5.out (by omega) (by omega) Rk X Rn hRn)
            clear k5 SX
            go_wp2_with fail
            refine PC.out.mono ?_
            rintro e w6 ⟨rfl, ⟨v', o6⟩, k6⟩
            have O6 := Lib.hid o6
            have K6 := Lib.hid (K5.out.trans k6 (fun _ _ h => h))
            clear o6 k6 PC
            go_wp2
            go_roundw
            case rel => exact ⟨p + Rn, done ++ [⟨Rk, X, p⟩], v', by have := HNS.out; omega, by rw [List.length_append, List.length_singleton]; omega, O6.out, by
              rw [HLX0.out, HR.out, HLT.out, show l.drop (p + Rn) = (c :: r).drop Rn by rw [← List.drop_drop, HR.out], HX.out]
              simp, K6.out⟩
            case measure => rw [O6.out.ca, HMe.out]; simp [intOf]; omega
          · have hb : ((Re : Int) != 0) = true := bne_iff_ne.2 (by omega)
            have hlb := lexL_bad (p := p) HBk.out HRm.out (by rw [← HRR.out]; exact hRe)
            rw [← HRR.out] at hlb
            have hfin : ∀ w', Keeps (fun b => B ≤ b) w w' → AllE l w (.returned (.tuple #[.slice none 0 0, .int .i64 (p : Int), .int .i64 (Re : Int)])) w' := fun w' hk => by
              refine ⟨?_, kback hk HB.out⟩
              rw [HLN.out, if_neg hbig, show (lexL l 0).2 = some (p, Re) by rw [HLX0.out, HR.out, hlb]]
            have HF := Lib.hid hfin
            clear hlb hfin hsz hgood hRe
            go_wp2_with fail
            rw [← HC.out]
            refine BC.out.mono ?_
            rintro e w2 ⟨rfl, k2⟩
            have O2 := Lib.hid (HO.out.keep k2)
            have k2' := KR.out.trans k2 (T := fun _ => False) (fun _ _ h => h.elim)
            have F2 := Lib.hid (FX.out w2 (HE.out.keepB (by rw [← HB.out]; exact k2')))
            have K2 := Lib.hid k2'
            clear k2 k2' ca fa FX
            go_wp2_with fail
            refine (PX.out w2).mono ?_
            rintro e w3 ⟨rfl, hw3⟩
            obtain rfl : w2 = w3 := hw3.symm
            go_wp2_with fail
            refine F2.out.mono ?_
            rintro e w4 ⟨rfl, k4⟩
            have O4 := Lib.hid (O2.out.keep k4)
            have ca4 := O4.out.ca
            have K4 := Lib.hid (K2.out.trans k4 (T := fun _ => False) (fun _ _ h => h.elim))
            clear k4 F2 PX
            go_wp2_with fail
            go_quiet (fail)
            go_wp2
            rw [Exit.noGoto_ret]
            go_ret3
            exact HF.out _ (K4.out.trans (drew_keeps _ _) (fun _ _ h => h.elim))
    · have hpe : p = N := by omega
      have hpI : ¬ (p : Int) < (s.size : Int) := by have := HNS.out; omega
      have hdd : decide ((p : Int) < (s.size : Int)) = false := decide_eq_false hpI
      have hps : p = s.size := by have := HNS.out; omega
      have HPS := Lib.hid hps
      clear hps hpe
      have hg := HO.out.go s.size
      have hlx : lexL l 0 = (done ++ [⟨0, [], s.size⟩], none) := by rw [HLX0.out, HPS.out, show l.drop s.size = [] by rw [HL.out]; exact List.drop_of_length_le (by rw [len_size]; exact Nat.le_refl _), lexL_nil]
      obtain ⟨wt, hwt⟩ : ∃ wt : World, wt = wr.setCell ⟨pa, 0, none⟩ (.int .i64 (s.size : Int)) := ⟨_, rfl⟩
      rw [← hwt] at hg
      have PC : Hid (Calls Tryz.prog 22 #[.int .i64 0, .string { data := #[] }, .int .i64 0, .pointer (some ⟨po, 0, none⟩), .pointer (some ⟨pa, 0, none⟩)] wt fun e w' => e = .returned (.tuple #[]) ∧ (∃ v', Out w' B po pa v' (done ++ [⟨0, [], s.size⟩]) (s.size + 0)) ∧ Keeps (fun b => B ≤ b) wt w') :=
        put_any wt B po pa v done s.size hg.1 (by omega) hs 0 [] 0 (by omega)
      have KT := Lib.hid (KR.out.trans hg.2 (fun _ _ h => h))
      have HLX := Lib.hid hlx
      have HWT := Lib.hid hwt
      have fa' := HO.out.fa
      have ca' := HO.out.ca
      clear hg hlx hwt
      go_wp2_with fail
      rw [← HWT.out]
      refine PC.out.mono ?_
      rintro e wu ⟨rfl, ⟨v', ou⟩, ku⟩
      obtain ⟨M, hM⟩ : ∃ M : List Tok, M = done ++ [⟨0, [], s.size⟩] := ⟨_, rfl⟩
      rw [← hM] at ou
      obtain ⟨m, hm⟩ : ∃ m : Nat, m = M.length := ⟨_, rfl⟩
      have oo := ou.own
      rw [← hm] at oo
      obtain ⟨A5, c5, rfl⟩ := own_formk oo
      have hfin : AllE l w (.returned (.tuple #[.slice A5 m c5, .int .i64 0, .int .i64 0])) wu := by
        refine ⟨?_, kback (KT.out.trans ku (fun _ _ h => h)) HB.out⟩
        rw [HLN.out, if_neg hbig, show (lexL l 0).2 = none by rw [HLX.out]]
        show ∃ A c, _ = _ ∧ _
        rw [show (lexL l 0).1 = M by rw [HLX.out, hM]]
        rw [hm] at oo ⊢
        exact ⟨A5, c5, rfl, oo, fun g hg => by rw [← hm] at hg; have h1 := (ou.hb g hg).1; have h2 := HB.out; omega⟩
      have co5 := ou.co
      have HF := Lib.hid hfin
      clear ou ku hM hm oo hfin PC fa' ca'
      go_wp2
      rw [Exit.noGoto_ret]
      go_ret3
      exact HF.out

end Go.Proofs.YtgelggdgbmldiaaGreatDoor

namespace Go.Proofs.YtgelggdgbmldiaaGreatDoor
open Go.RowKit Go.Shelf
set_option linter.unusedVariables false
set_option linter.unusedSimpArgs false

/-- What lies at a slice's cells: tokens. -/
def RdT (w : World) (A : Option Addr) (L : List Tok) : Prop := 0 < L.length → ∃ b off, A = some ⟨b, off, none⟩ ∧ ∀ k, k < L.length →
  w.cell? ⟨b, off + k * 3, none⟩ = some (.int .i64 ((L.getD k default).k : Int)) ∧ w.cell? ⟨b, off + k * 3 + 1, none⟩ = some (.string (ofL (L.getD k default).x)) ∧ w.cell? ⟨b, off + k * 3 + 2, none⟩ = some (.int .i64 ((L.getD k default).p : Int))
theorem RdT.keep {w w' : World} {A : Option Addr} {L : List Tok} (h : RdT w A L) (hk : Keeps (fun _ => False) w w') : RdT w' A L := fun h0 => by
  obtain ⟨b, off, e, hc⟩ := h h0
  have hb : b < w.heap.size := cell_ltk (hc 0 h0).1
  refine ⟨b, off, e, fun k hk2 => ?_⟩
  obtain ⟨c0, c1, c2⟩ := hc k hk2
  exact ⟨(hk.cell hb (fun h => h)).trans c0, (hk.cell hb (fun h => h)).trans c1, (hk.cell hb (fun h => h)).trans c2⟩
theorem own_rdT {w : World} {A : Option Addr} {c n : Nat} {L : List Tok} (h : w.ownsRow 0 38 3 (.slice A n c) n (flatT L)) (hn : n = L.length) : RdT w A L := fun h0 => by
  rcases h.2 with ⟨_, h1⟩ | ⟨g, cap, cur, e1, _⟩
  · omega
  · simp only [Value.slice.injEq] at e1
    obtain ⟨rfl, _, rfl⟩ := e1
    refine ⟨g, 0, rfl, fun k hk => ?_⟩
    obtain ⟨f0, f1, f2⟩ := flatT_at L k hk
    rw [Nat.zero_add]
    exact ⟨(h.cellAt _ (by omega)).trans f0, (h.cellAt _ (by omega)).trans f1, (h.cellAt _ (by omega)).trans f2⟩
theorem RdT.cellsAt {w : World} {A : Option Addr} {L : List Tok} (h : RdT w A L) {i : Nat} (hi : i < L.length) : ∃ b off, A = some ⟨b, off, none⟩ ∧ ∀ wq, Keeps (fun _ => False) w wq →
    wq.cell? ⟨b, off + i * 3, none⟩ = some (.int .i64 ((L.getD i default).k : Int)) ∧ wq.cell? ⟨b, off + i * 3 + 1, none⟩ = some (.string (ofL (L.getD i default).x)) ∧ wq.cell? ⟨b, off + i * 3 + 2, none⟩ = some (.int .i64 ((L.getD i default).p : Int)) := by
  obtain ⟨b, off, e, hc⟩ := h (by omega)
  obtain ⟨c0, c1, c2⟩ := hc i hi
  have hb := cell_ltk c0
  exact ⟨b, off, e, fun wq k => ⟨(k.cell hb (fun h => h)).trans c0, (k.cell hb (fun h => h)).trans c1, (k.cell hb (fun h => h)).trans c2⟩⟩

theorem all_ok (s : ByteArray) (hs : s.size ≤ 600) (ts : List Tok) (h : lexL s.data.toList 0 = (ts, none)) (w : World) (he : ErrW w) :
    Calls Tryz.prog 14 #[.string s] w fun e w' => ∃ A c, e = .returned (.tuple #[.slice A ts.length c, .int .i64 0, .int .i64 0]) ∧ RdT w' A ts ∧ Keeps (fun _ => False) w w' :=
  (all_any s (by omega) w he).mono fun e w' ⟨h1, hk⟩ => by
    rw [if_neg (by rw [len_size]; omega), show (lexL s.data.toList 0).2 = none by rw [h]] at h1
    obtain ⟨A, c, e1, o, _⟩ := (h1 : ∃ A c, e = .returned (.tuple #[.slice A (lexL s.data.toList 0).1.length c, .int .i64 0, .int .i64 0]) ∧ NewT (lexL s.data.toList 0).1 w A c w')
    rw [show (lexL s.data.toList 0).1 = ts by rw [h]] at e1 o
    exact ⟨A, c, e1, own_rdT o rfl, hk⟩
theorem all_bad (s : ByteArray) (hs : s.size ≤ 600) (q er : Nat) (h : (lexL s.data.toList 0).2 = some (q, er)) (w : World) (he : ErrW w) :
    Calls Tryz.prog 14 #[.string s] w fun e w' => e = .returned (.tuple #[.slice none 0 0, .int .i64 (q : Int), .int .i64 (er : Int)]) ∧ Keeps (fun _ => False) w w' :=
  (all_any s (by omega) w he).mono fun e w' ⟨h1, hk⟩ => by
    rw [if_neg (by rw [len_size]; omega), h] at h1
    exact ⟨h1, hk⟩
theorem all_big (s : ByteArray) (hb : 600 < s.size) (hs : s.size ≤ 1000) (w : World) (he : ErrW w) :
    Calls Tryz.prog 14 #[.string s] w fun e w' => e = .returned (.tuple #[.slice none 0 0, .int .i64 0, .int .i64 4]) ∧ Keeps (fun _ => False) w w' :=
  (all_any s hs w he).mono fun e w' ⟨h1, hk⟩ => by
    rw [if_pos (by rw [len_size]; exact hb)] at h1
    exact ⟨h1, hk⟩

theorem eq33 (a b : Int) (s : ByteArray) (a' b' : Int) (s' : ByteArray) (w : World) : (Op.equalIn 10000 38 (.agg #[.int .i64 a, .string s, .int .i64 b]) (.agg #[.int .i64 a', .string s', .int .i64 b'])).run Tryz.prog w = .ok (a == a' && (s.toList == s'.toList && (b == b'))) w := by
  have hS : Tryz.prog.underlying 38 = some (.struct (Tryz.prog.fieldsOf 38)) := by kernel_rfl
  have hp : Tryz.prog.stoodInHeld 38 = false := by kernel_rfl
  rw [show (10000 : Nat) = 9999 + 1 from rfl, run_equalIn_agg w 9999 38 _ _ hS hp]
  simp only [Program.fieldsOf, Tryz.underlying38]
  go_simp
  cases h1 : (a == a') <;> cases h2 : (b == b') <;> cases h3 : (s.toList == s'.toList) <;> simp_all
theorem guard33 : Tryz.prog.eqGuardType Tryz.prog.depth 38 = false := by kernel_rfl
theorem eql33 (a b : Int) (s : ByteArray) (a' b' : Int) (s' : ByteArray) (w : World) : (binOp .eql 38 (.agg #[.int .i64 a, .string s, .int .i64 b]) (.agg #[.int .i64 a', .string s', .int .i64 b'])).run Tryz.prog w = .ok (.bool (a == a' && (s.toList == s'.toList && (b == b')))) w := by
  have h := run_eql_struct (P := Tryz.prog) w 38 #[.int .i64 a, .string s, .int .i64 b] #[.int .i64 a', .string s', .int .i64 b']
  rw [eq33] at h
  exact h
theorem neq33 (a b : Int) (s : ByteArray) (a' b' : Int) (s' : ByteArray) (w : World) : (binOp .neq 38 (.agg #[.int .i64 a, .string s, .int .i64 b]) (.agg #[.int .i64 a', .string s', .int .i64 b'])).run Tryz.prog w = .ok (.bool (!(a == a' && (s.toList == s'.toList && (b == b'))))) w := by
  have h := run_neq_struct (P := Tryz.prog) w 38 #[.int .i64 a, .string s, .int .i64 b] #[.int .i64 a', .string s', .int .i64 b']
  rw [eq33] at h
  exact h

end Go.Proofs.YtgelggdgbmldiaaGreatDoor

namespace Go.Proofs.YtgelggdgbmldiaaGreatDoor
set_option linter.unusedVariables false
set_option linter.unusedSimpArgs false

def lineL (l : List UInt8) (a : Int) : Nat := if a < 0 then 1 else 1 + (l.take a.toNat).count 10
def stepL (l : List UInt8) (a : Int) : Nat := if 0 ≤ a ∧ l[a.toNat]? = some 10 then 1 else 0
theorem line_pos (l : List UInt8) (a : Int) : 1 ≤ lineL l a := by unfold lineL; split <;> omega
theorem line_zero (l : List UInt8) : lineL l 0 = 1 := by unfold lineL; simp
theorem line_le (l : List UInt8) (a : Int) : lineL l a ≤ 1 + l.length := by
  unfold lineL
  split
  · omega
  · have h1 := List.count_le_length (a := (10 : UInt8)) (l := l.take a.toNat)
    have h2 := List.length_take_le a.toNat l
    rw [List.length_take] at h1
    omega
theorem line_next (l : List UInt8) (a : Int) : lineL l (a + 1) = lineL l a + stepL l a := by
  by_cases h : a < 0
  · have hs : stepL l a = 0 := by unfold stepL; rw [if_neg (by omega)]
    have h1 : lineL l a = 1 := by unfold lineL; rw [if_pos h]
    rw [hs, h1]
    unfold lineL
    by_cases h2 : a + 1 < 0
    · rw [if_pos h2]
    · rw [if_neg h2, show (a + 1).toNat = 0 by omega]
      simp
  · unfold lineL
    rw [if_neg (by omega), if_neg h, show (a + 1).toNat = a.toNat + 1 by omega, List.take_add_one, List.count_append]
    unfold stepL
    cases hc : l[a.toNat]? with
    | none => simp
    | some c =>
      by_cases h10 : c = 10
      · rw [if_pos ⟨by omega, by rw [h10]⟩, h10]
        simp
        omega
      · rw [if_neg (by rintro ⟨_, e⟩; exact h10 (Option.some.inj e))]
        simp [h10]

end Go.Proofs.YtgelggdgbmldiaaGreatDoor

namespace Go.Proofs.YtgelggdgbmldiaaGreatDoor
open Go.RowKit Go.Shelf
set_option linter.unusedVariables false
set_option linter.unusedSimpArgs false


theorem empty_iff (s : ByteArray) : (s.toList == ([] : List UInt8)) = decide (s.size = 0) := by
  rw [word_beq, Bool.eq_iff_iff]
  simp only [decide_eq_true_eq]
  rw [← len_size, List.length_eq_zero_iff]
theorem ext_one (s : ByteArray) (k : Nat) (h : k < s.size) : (s.extract k (k + 1)).data.toList = [s[k]] := by
  have h2 := at_byte s k h
  obtain ⟨h3, h4⟩ := List.getElem?_eq_some_iff.1 h2
  have : (s.extract k (k + 1)).data.toList = (s.data.toList.drop k).take 1 := by simp
  rw [this, List.drop_eq_getElem_cons h3, List.take_succ_cons, h4]
  rfl

set_option maxRecDepth 100000 in
set_option maxHeartbeats 4000000 in
theorem line_any (s : ByteArray) (hs : s.size ≤ 1000) (a : Int) (w : World) : Calls Tryz.prog 56 #[.string s, .int .i64 a] w fun e w' => e = .returned (.int .i64 (lineL s.data.toList a : Nat)) ∧ w' = w := by
  by_cases h : a < 0
  · have hl : lineL s.data.toList a = 1 := by unfold lineL; rw [if_pos h]
    rw [hl]
    clear hl
    go_enter Tryz.func56, Tryz.ntmps56
    go_wp2
    go_ret
    exact ⟨rfl, rfl⟩
  · obtain ⟨n, rfl⟩ := Int.eq_ofNat_of_zero_le (show 0 ≤ a by omega)
    have hl : lineL s.data.toList (n : Int) = 1 + (s.extract 0 (min n s.size)).data.toList.count 10 := by
      unfold lineL
      rw [if_neg h, ext_take, show ((n : Int)).toNat = n from rfl]
      congr 2
      by_cases h2 : n ≤ s.size
      · rw [Nat.min_eq_left h2]
      · rw [Nat.min_eq_right (by omega), ← len_size, List.take_length, List.take_of_length_le (by rw [len_size]; omega)]
    have hb : (s.extract 0 (min n s.size)).data.toList.count 10 ≤ 1000 := by
      have h1 := line_le s.data.toList (n : Int)
      rw [hl, len_size] at h1
      omega
    rw [hl]
    obtain ⟨y, hy⟩ : ∃ y, y = s.extract 0 (min n s.size) := ⟨_, rfl⟩
    have CC := Lib.hid (count_any y 10 w)
    rw [← hy] at hb ⊢
    obtain ⟨k, hk⟩ : ∃ k, k = y.data.toList.count 10 := ⟨_, rfl⟩
    rw [← hk] at CC hb ⊢
    have hn0 : ¬ (n : Int) < 0 := by omega
    have hd0 : decide ((n : Int) < 0) = false := decide_eq_false hn0
    have HY := Lib.hid hy
    clear hl hy hk h
    go_enter Tryz.func56, Tryz.ntmps56
    go_wp2_with fail
    rw [show (min (n : Int) (s.size : Int)).toNat = min n s.size by omega, ← HY.out]
    refine CC.out.mono ?_
    rintro e w2 ⟨rfl, hw⟩
    obtain rfl : w = w2 := hw.symm
    have hsw : IntKind.i64.wrap (1 + (k : Int)) = 1 + (k : Int) := IntWalk.i64_in _ (by omega)
    clear CC hw
    go_wp2
    go_ret
    exact ⟨by go_num, rfl⟩

end Go.Proofs.YtgelggdgbmldiaaGreatDoor

namespace Go.Proofs.YtgelggdgbmldiaaGreatDoor
open Go.RowKit Go.Shelf
set_option linter.unusedVariables false
set_option linter.unusedSimpArgs false

/-- A function that tells of each byte whether it is of a kind, and leaves the world as it is. -/
def TellsQ (f : Nat) (p : UInt8 → Bool) : Prop := ∀ (w : World) (c : UInt8), Calls Tryz.prog f #[.int .u8 (c.toNat : Int)] w fun e w' => e = .returned (.bool (p c)) ∧ w' = w

set_option maxHeartbeats 1000000 in
theorem rdig : TellsQ 42 dig := fun w c => by
  have hc := u8_lt c
  by_cases h0 : 48 ≤ c.toNat
  · by_cases h1 : c.toNat ≤ 57
    · have hv : dig c = true := by unfold dig; simp only [Bool.and_eq_true, Bool.or_eq_true, decide_eq_true_eq, Bool.not_eq_true', decide_eq_false_iff_not]; omega
      rw [hv]
      clear hv
      generalize c.toNat = n at *
      have e0 : (48 : Int) ≤ (n : Int) := by omega
      have f0 : decide ((48 : Int) ≤ (n : Int)) = true := decide_eq_true e0
      have e1 : (n : Int) ≤ 57 := by omega
      have f1 : decide ((n : Int) ≤ 57) = true := decide_eq_true e1
      go_enter Tryz.func42, Tryz.ntmps42
      go_wp2
      go_ret
      exact ⟨rfl, rfl⟩
    · have hv : dig c = false := Bool.eq_false_iff.2 (fun h => by unfold dig at h; simp only [Bool.and_eq_true, Bool.or_eq_true, decide_eq_true_eq, Bool.not_eq_true', decide_eq_false_iff_not] at h; omega)
      rw [hv]
      clear hv
      generalize c.toNat = n at *
      have e0 : (48 : Int) ≤ (n : Int) := by omega
      have f0 : decide ((48 : Int) ≤ (n : Int)) = true := decide_eq_true e0
      have e1 : ¬ (n : Int) ≤ 57 := by omega
      have f1 : decide ((n : Int) ≤ 57) = false := decide_eq_false e1
      go_enter Tryz.func42, Tryz.ntmps42
      go_wp2
      go_ret
      exact ⟨rfl, rfl⟩
  · have hv : dig c = false := Bool.eq_false_iff.2 (fun h => by unfold dig at h; simp only [Bool.and_eq_true, Bool.or_eq_true, decide_eq_true_eq, Bool.not_eq_true', decide_eq_false_iff_not] at h; omega)
    rw [hv]
    clear hv
    generalize c.toNat = n at *
    have e0 : ¬ (48 : Int) ≤ (n : Int) := by omega
    have f0 : decide ((48 : Int) ≤ (n : Int)) = false := decide_eq_false e0
    go_enter Tryz.func42, Tryz.ntmps42
    go_wp2
    go_ret
    exact ⟨rfl, rfl⟩

set_option maxHeartbeats 1000000 in
theorem rltr : TellsQ 44 ltr := fun w c => by
  have hc := u8_lt c
  by_cases h0 : 97 ≤ c.toNat
  · by_cases h1 : c.toNat ≤ 122
    · have hv : ltr c = true := by unfold ltr; simp only [Bool.and_eq_true, Bool.or_eq_true, decide_eq_true_eq, Bool.not_eq_true', decide_eq_false_iff_not]; omega
      rw [hv]
      clear hv
      generalize c.toNat = n at *
      have e0 : (97 : Int) ≤ (n : Int) := by omega
      have f0 : decide ((97 : Int) ≤ (n : Int)) = true := decide_eq_true e0
      have e1 : (n : Int) ≤ 122 := by omega
      have f1 : decide ((n : Int) ≤ 122) = true := decide_eq_true e1
      go_enter Tryz.func44, Tryz.ntmps44
      go_wp2
      go_ret
      exact ⟨rfl, rfl⟩
    · by_cases h2 : 65 ≤ c.toNat
      · by_cases h3 : c.toNat ≤ 90
        · exfalso; omega
        · have hv : ltr c = false := Bool.eq_false_iff.2 (fun h => by unfold ltr at h; simp only [Bool.and_eq_true, Bool.or_eq_true, decide_eq_true_eq, Bool.not_eq_true', decide_eq_false_iff_not] at h; omega)
          rw [hv]
          clear hv
          generalize c.toNat = n at *
          have e0 : (97 : Int) ≤ (n : Int) := by omega
          have f0 : decide ((97 : Int) ≤ (n : Int)) = true := decide_eq_true e0
          have e1 : ¬ (n : Int) ≤ 122 := by omega
          have f1 : decide ((n : Int) ≤ 122) = false := decide_eq_false e1
          have e2 : (65 : Int) ≤ (n : Int) := by omega
          have f2 : decide ((65 : Int) ≤ (n : Int)) = true := decide_eq_true e2
          have e3 : ¬ (n : Int) ≤ 90 := by omega
          have f3 : decide ((n : Int) ≤ 90) = false := decide_eq_false e3
          go_enter Tryz.func44, Tryz.ntmps44
          go_wp2
          go_ret
          exact ⟨rfl, rfl⟩
      · exfalso; omega
  · by_cases h1 : 65 ≤ c.toNat
    · by_cases h2 : c.toNat ≤ 90
      · have hv : ltr c = true := by unfold ltr; simp only [Bool.and_eq_true, Bool.or_eq_true, decide_eq_true_eq, Bool.not_eq_true', decide_eq_false_iff_not]; omega
        rw [hv]
        clear hv
        generalize c.toNat = n at *
        have e0 : ¬ (97 : Int) ≤ (n : Int) := by omega
        have f0 : decide ((97 : Int) ≤ (n : Int)) = false := decide_eq_false e0
        have e1 : (65 : Int) ≤ (n : Int) := by omega
        have f1 : decide ((65 : Int) ≤ (n : Int)) = true := decide_eq_true e1
        have e2 : (n : Int) ≤ 90 := by omega
        have f2 : decide ((n : Int) ≤ 90) = true := decide_eq_true e2
        go_enter Tryz.func44, Tryz.ntmps44
        go_wp2
        go_ret
        exact ⟨rfl, rfl⟩
      · have hv : ltr c = false := Bool.eq_false_iff.2 (fun h => by unfold ltr at h; simp only [Bool.and_eq_true, Bool.or_eq_true, decide_eq_true_eq, Bool.not_eq_true', decide_eq_false_iff_not] at h; omega)
        rw [hv]
        clear hv
        generalize c.toNat = n at *
        have e0 : ¬ (97 : Int) ≤ (n : Int) := by omega
        have f0 : decide ((97 : Int) ≤ (n : Int)) = false := decide_eq_false e0
        have e1 : (65 : Int) ≤ (n : Int) := by omega
        have f1 : decide ((65 : Int) ≤ (n : Int)) = true := decide_eq_true e1
        have e2 : ¬ (n : Int) ≤ 90 := by omega
        have f2 : decide ((n : Int) ≤ 90) = false := decide_eq_false e2
        go_enter Tryz.func44, Tryz.ntmps44
        go_wp2
        go_ret
        exact ⟨rfl, rfl⟩
    · have hv : ltr c = false := Bool.eq_false_iff.2 (fun h => by unfold ltr at h; simp only [Bool.and_eq_true, Bool.or_eq_true, decide_eq_true_eq, Bool.not_eq_true', decide_eq_false_iff_not] at h; omega)
      rw [hv]
      clear hv
      generalize c.toNat = n at *
      have e0 : ¬ (97 : Int) ≤ (n : Int) := by omega
      have f0 : decide ((97 : Int) ≤ (n : Int)) = false := decide_eq_false e0
      have e1 : ¬ (65 : Int) ≤ (n : Int) := by omega
      have f1 : decide ((65 : Int) ≤ (n : Int)) = false := decide_eq_false e1
      go_enter Tryz.func44, Tryz.ntmps44
      go_wp2
      go_ret
      exact ⟨rfl, rfl⟩


theorem line_when {l : List UInt8} {a : Int} {i : Nat} (h1 : i = 0 ∨ (i : Int) ≤ a) (h2 : i = l.length ∨ a ≤ (i : Int)) : lineL l a = 1 + (l.take i).count 10 := by
  unfold lineL
  by_cases h : a < 0
  · rw [if_pos h]
    obtain rfl : i = 0 := by omega
    simp
  · rw [if_neg h]
    rcases h2 with h2 | h2
    · rcases h1 with h1 | h1
      · have : l = [] := List.length_eq_zero_iff.1 (by omega)
        rw [this]
        simp
      · rw [List.take_of_length_le (i := a.toNat) (by omega), List.take_of_length_le (i := i) (by omega)]
    · rcases h1 with h1 | h1
      · obtain rfl : i = 0 := h1
        rw [show a.toNat = 0 by omega]
      · rw [show a.toNat = i by omega]
theorem count_next {l : List UInt8} {k : Nat} {c : UInt8} (h : l[k]? = some c) : (l.take (k + 1)).count 10 = (l.take k).count 10 + if c.toNat = 10 then 1 else 0 := by
  rw [List.take_add_one, List.count_append, h]
  by_cases h10 : c.toNat = 10
  · obtain rfl : c = 10 := UInt8.toNat_inj.1 h10
    rfl
  · rw [if_neg h10]
    have : c ≠ 10 := fun e => h10 (by rw [e]; rfl)
    simp [this]

set_option maxRecDepth 100000 in
set_option maxHeartbeats 4000000 in
theorem rline_any (s : ByteArray) (hs : s.size ≤ 1000) (a : Int) (w : World) : Calls Tryz.prog 63 #[.string s, .int .i64 a] w fun e w' => e = .returned (.int .i64 (lineL s.data.toList a : Nat)) ∧ w' = w := by
  obtain ⟨l, hl⟩ : ∃ l : List UInt8, l = s.data.toList := ⟨_, rfl⟩
  have hlen : l.length = s.size := by rw [hl, len_size]
  rw [← hl]
  have HL := Lib.hid hl
  have HLN := Lib.hid hlen
  clear hl hlen
  go_enter Tryz.func63, Tryz.ntmps63
  go_wp2_with fail
  go_loopw [5, 6] (fun s5 s6 wr => ∃ (i n : Nat), i ≤ s.size ∧ s5 = .int .i64 n ∧ s6 = .int .i64 i ∧ n = 1 + (l.take i).count 10 ∧ (i = 0 ∨ (i : Int) ≤ a) ∧ wr = w) (fun _ s6 _ => s.size + 1 - (intOf s6).toNat)
  case atStart => exact ⟨0, 1, Nat.zero_le _, rfl, rfl, by simp, .inl rfl, rfl⟩
  case round =>
    obtain ⟨i, n, hi, rfl, rfl, hn, hia, hw⟩ := hrel
    obtain rfl : w = wr := hw.symm
    clear hw
    have hn9 : n ≤ 1001 := by
      have h1 := List.count_le_length (a := (10 : UInt8)) (l := l.take i)
      rw [List.length_take] at h1
      omega
    have HW := Lib.hid (fun h2 => line_when (l := l) hia h2)
    have HN := Lib.hid hn
    clear hn
    by_cases h1 : i < s.size
    · have h1I : (i : Int) < (s.size : Int) := by omega
      have h1d : decide ((i : Int) < (s.size : Int)) = true := decide_eq_true h1I
      by_cases h2 : (i : Int) < a
      · have h2d : decide ((i : Int) < a) = true := decide_eq_true h2
        have hi0 : (0 : Int) ≤ (i : Int) := by omega
        have hc := at_byte s i h1
        rw [← HL.out] at hc
        have hcn := count_next hc
        by_cases h10 : s[i].toNat = 10
        · have q10 : ((s[i].toNat : Int) == 10) = true := by simp; omega
          rw [if_pos h10] at hcn
          have H := Lib.hid (show n + 1 = 1 + (l.take (i + 1)).count 10 by rw [hcn, HN.out]; omega)
          clear hcn hc h10
          go_wp2
          go_roundw
          case rel => exact ⟨i + 1, n + 1, by omega, by go_num, by go_num, H.out, .inr (by omega), by first | rfl | trivial⟩
          case measure => simp [intOf]; omega
        · have q10 : ((s[i].toNat : Int) == 10) = false := by simp; omega
          rw [if_neg h10] at hcn
          have H := Lib.hid (show n = 1 + (l.take (i + 1)).count 10 by rw [hcn, HN.out]; omega)
          clear hcn hc h10
          go_wp2
          go_roundw
          case rel => exact ⟨i + 1, n, by omega, by first | rfl | go_num, by go_num, H.out, .inr (by omega), by first | rfl | trivial⟩
          case measure => simp [intOf]; omega
      · have h2d : decide ((i : Int) < a) = false := decide_eq_false h2
        have hr := HW.out (.inr (by omega))
        rw [← HN.out] at hr
        have HR := Lib.hid hr
        clear hr
        go_wp2
        go_ret
        exact ⟨by rw [HR.out]; rfl, rfl⟩
    · have h1d : decide ((i : Int) < (s.size : Int)) = false := decide_eq_false (by omega)
      have hr := HW.out (.inl (by rw [HLN.out]; omega))
      rw [← HN.out] at hr
      have HR := Lib.hid hr
      clear hr
      go_wp2
      go_ret
      exact ⟨by rw [HR.out]; rfl, rfl⟩

theorem word_get (l : List UInt8) : isWord l = true ↔ ∃ k, k < 16 ∧ wordsL.getD k [] = l := by
  unfold isWord
  rw [List.contains_iff_mem, List.mem_iff_getElem]
  constructor
  · rintro ⟨k, hk, e⟩
    exact ⟨k, hk, by rw [← e]; simp [List.getD, hk]⟩
  · rintro ⟨k, hk, e⟩
    have hk2 : k < wordsL.length := hk
    exact ⟨k, hk2, by rw [← e]; simp [List.getD, hk2]⟩

set_option maxRecDepth 100000 in
set_option maxHeartbeats 4000000 in
theorem rword_any (s : ByteArray) (w : World) : Calls Tryz.prog 45 #[.string s] w fun e w' => e = .returned (.bool (isWord s.data.toList)) ∧ Keeps (fun _ => False) w w' := by
  obtain ⟨l, hl⟩ : ∃ l : List UInt8, l = s.data.toList := ⟨_, rfl⟩
  rw [← hl]
  have HL := Lib.hid hl
  clear hl
  go_enter Tryz.func45, Tryz.ntmps45
  go_wp2_with fail
  generalize hwA : w.alloc _ = wA
  have kA : Keeps (fun _ => False) w wA := by rw [← hwA]; exact (Keeps.refl _ _).alloc _
  have hc : ∀ k, k < 16 → wA.cell? ⟨w.heap.size, k, none⟩ = some (.string (ofL (wordsL.getD k []))) := fun k hk => by
    have h16 : k = 0 ∨ k = 1 ∨ k = 2 ∨ k = 3 ∨ k = 4 ∨ k = 5 ∨ k = 6 ∨ k = 7 ∨ k = 8 ∨ k = 9 ∨ k = 10 ∨ k = 11 ∨ k = 12 ∨ k = 13 ∨ k = 14 ∨ k = 15 := by omega
    rw [← hwA]
    rcases h16 with rfl | rfl | rfl | rfl | rfl | rfl | rfl | rfl | rfl | rfl | rfl | rfl | rfl | rfl | rfl | rfl <;> (simp; rfl)
  obtain ⟨B, hB⟩ : ∃ B, B = w.heap.size := ⟨_, rfl⟩
  rw [← hB] at hc ⊢
  have KA := Lib.hid kA
  have HC := Lib.hid hc
  clear hwA kA hc hB
  go_loopw [4] (fun s4 wr => ∃ (k : Nat), k ≤ 16 ∧ s4 = .int .i64 k ∧ (∀ j, j < k → wordsL.getD j [] ≠ l) ∧ wr = wA) (fun s4 _ => 17 - (intOf s4).toNat)
  case atStart => exact ⟨0, Nat.zero_le _, rfl, fun j h => by omega, rfl⟩
  case round =>
    obtain ⟨k, hk, rfl, hno, hw⟩ := hrel
    obtain rfl : wA = wr := hw.symm
    clear hw
    by_cases h1 : k < 16
    · have h1I : (k : Int) < 16 := by omega
      have h1d : decide ((k : Int) < 16) = true := decide_eq_true h1I
      have hk0 : (0 : Int) ≤ (k : Int) := by omega
      have c0 := HC.out k h1
      obtain ⟨X, hX⟩ : ∃ X : ByteArray, X = ofL (wordsL.getD k []) := ⟨_, rfl⟩
      rw [← hX] at c0
      have hXl : X.data.toList = wordsL.getD k [] := by rw [hX]; exact ofL_list _
      by_cases he : wordsL.getD k [] = l
      · have q : (X.toList == s.toList) = true := by
          rw [toList_data, toList_data, hXl, he, HL.out]
          simp
        have hr : isWord l = true := (word_get l).2 ⟨k, h1, he⟩
        have HR := Lib.hid hr
        clear he hX hXl hno hr
        go_wp2
        go_ret
        exact ⟨by rw [HR.out]; rfl, KA.out⟩
      · have q : (X.toList == s.toList) = false := by
          rw [toList_data, toList_data, hXl, ← HL.out]
          exact beq_eq_false_iff_ne.2 he
        have HN : Hid (∀ j, j < k + 1 → wordsL.getD j [] ≠ l) := fun j hj => by
          rcases Nat.lt_or_ge j k with h3 | h3
          · exact hno j h3
          · obtain rfl : j = k := by omega
            exact he
        clear he hX hXl hno
        go_wp2
        go_roundw
        case rel => exact ⟨k + 1, by omega, by go_num, HN.out, by first | rfl | trivial⟩
        case measure => simp [intOf]; omega
    · obtain rfl : k = 16 := by omega
      have hr : isWord l = false := by
        cases h : isWord l with
        | false => rfl
        | true =>
          obtain ⟨j, h2, h3⟩ := (word_get l).1 h
          exact absurd h3 (hno j h2)
      have HR := Lib.hid hr
      clear hno hr
      go_wp2
      go_ret
      exact ⟨by rw [HR.out]; rfl, KA.out⟩

theorem numA_split (l : List UInt8) : ∀ a, numA a l = a * 10 ^ l.length + numA 0 l := by
  induction l with
  | nil => intro a; show a = a * 10 ^ 0 + 0; simp
  | cons c r ih =>
    intro a
    rw [numA_cons, numA_cons, ih, ih (0 * 10 + (c.toNat - 48)), List.length_cons, Nat.pow_succ, Nat.zero_mul, Nat.zero_add, Nat.add_mul, Nat.mul_assoc, Nat.mul_comm 10]
    omega
theorem numA_lt {l : List UInt8} (h : ∀ c ∈ l, dig c = true) : numA 0 l < 10 ^ l.length := by
  induction l with
  | nil => show 0 < 10 ^ 0; decide
  | cons c r ih =>
    have h1 := ih fun d hd => h d (by simp [hd])
    have h2 := h c (by simp)
    unfold dig at h2
    simp only [Bool.and_eq_true, decide_eq_true_eq] at h2
    rw [numA_cons, numA_split, List.length_cons, Nat.pow_succ, Nat.zero_mul, Nat.zero_add]
    have h3 : (c.toNat - 48) * 10 ^ r.length ≤ 9 * 10 ^ r.length := Nat.mul_le_mul_right _ (by omega)
    omega
theorem digs_less {x : List UInt8} : ∀ {y : List UInt8}, x.length = y.length → (∀ c ∈ x, dig c = true) → (∀ c ∈ y, dig c = true) →
    (Op.bytesLess x y || x == y) = decide (numA 0 x ≤ numA 0 y) := by
  induction x with
  | nil =>
    intro y hl _ _
    have : y = [] := List.length_eq_zero_iff.1 hl.symm
    rw [this]
    rfl
  | cons a x ih =>
    intro y hl hx hy
    cases y with
    | nil => simp at hl
    | cons b y =>
      have hl2 : x.length = y.length := by simpa using hl
      have h1 := ih hl2 (fun d hd => hx d (by simp [hd])) (fun d hd => hy d (by simp [hd]))
      have va := numA_lt (fun d hd => hx d (List.mem_cons_of_mem _ hd))
      have vb := numA_lt (fun d hd => hy d (List.mem_cons_of_mem _ hd))
      have ha := hx a (by simp)
      have hb := hy b (by simp)
      unfold dig at ha hb
      simp only [Bool.and_eq_true, decide_eq_true_eq] at ha hb
      rw [numA_cons, numA_cons, numA_split x, numA_split y, Nat.zero_mul, Nat.zero_add, Nat.zero_add, hl2]
      rw [hl2] at va
      obtain ⟨P, hP⟩ : ∃ P, P = 10 ^ y.length := ⟨_, rfl⟩
      rw [← hP] at va vb ⊢
      show ((decide (a < b) || (a == b && Op.bytesLess x y)) || (a == b && x == y)) = _
      rcases Nat.lt_trichotomy a.toNat b.toNat with h | h | h
      · have e1 : decide (a < b) = true := decide_eq_true (UInt8.lt_iff_toNat_lt.2 h)
        have h3 : (a.toNat - 48 + 1) * P ≤ (b.toNat - 48) * P := Nat.mul_le_mul_right _ (by omega)
        rw [Nat.add_mul, Nat.one_mul] at h3
        rw [e1, decide_eq_true (by omega)]
        rfl
      · obtain rfl : a = b := UInt8.toNat_inj.1 h
        have e1 : decide (a < a) = false := decide_eq_false (fun h => by have := UInt8.lt_iff_toNat_lt.1 h; omega)
        have e2 : (a == a) = true := by simp
        rw [e1, e2, Bool.false_or, Bool.true_and, Bool.true_and, h1]
        rw [Bool.eq_iff_iff]
        simp only [decide_eq_true_eq]
        omega
      · have e1 : decide (a < b) = false := decide_eq_false (fun h2 => by have := UInt8.lt_iff_toNat_lt.1 h2; omega)
        have e2 : (a == b) = false := by
          rw [beq_eq_false_iff_ne]
          intro e
          rw [e] at h
          omega
        have h3 : (b.toNat - 48 + 1) * P ≤ (a.toNat - 48) * P := Nat.mul_le_mul_right _ (by omega)
        rw [Nat.add_mul, Nat.one_mul] at h3
        rw [e1, e2, decide_eq_false (by omega)]
        rfl

set_option maxRecDepth 100000 in
set_option maxHeartbeats 4000000 in
theorem rnumber_any (s : ByteArray) (hd : ∀ c ∈ s.data.toList, dig c = true) (w : World) : Calls Tryz.prog 43 #[.string s] w fun e w' => e = .returned (.bool (decide (numV s.data.toList ≤ 9223372036854775807 ∧ s.size ≤ 19))) ∧ w' = w := by
  have hv : numV s.data.toList = numA 0 s.data.toList := rfl
  have hlt := numA_lt hd
  rw [← hv, len_size] at hlt
  by_cases h1 : s.size < 19
  · have h1d : decide ((s.size : Int) < 19) = true := decide_eq_true (by omega)
    have h3 : 10 ^ s.size ≤ 10 ^ 18 := Nat.pow_le_pow_right (by decide) (by omega)
    have hr : decide (numV s.data.toList ≤ 9223372036854775807 ∧ s.size ≤ 19) = true := decide_eq_true ⟨by omega, by omega⟩
    have HR := Lib.hid hr
    clear hr hlt h3 hv hd
    go_enter Tryz.func43, Tryz.ntmps43
    go_wp2
    go_ret
    exact ⟨by rw [HR.out]; rfl, rfl⟩
  · have h1d : decide ((s.size : Int) < 19) = false := decide_eq_false (by omega)
    by_cases h2 : s.size = 19
    · have h2d : ((s.size : Int) == 19) = true := by simp; omega
      have hc := digs_less (x := s.data.toList) (y := [57, 50, 50, 51, 51, 55, 50, 48, 51, 54, 56, 53, 52, 55, 55, 53, 56, 48, 55]) (by rw [len_size, h2]; rfl) hd (by decide)
      rw [show numA 0 [57, 50, 50, 51, 51, 55, 50, 48, 51, 54, 56, 53, 52, 55, 55, 53, 56, 48, 55] = 9223372036854775807 by decide, ← hv] at hc
      have HC : Hid ((Op.bytesLess s.toList [57, 50, 50, 51, 51, 55, 50, 48, 51, 54, 56, 53, 52, 55, 55, 53, 56, 48, 55] || s.toList == [57, 50, 50, 51, 51, 55, 50, 48, 51, 54, 56, 53, 52, 55, 55, 53, 56, 48, 55]) = decide (numV s.data.toList ≤ 9223372036854775807 ∧ s.size ≤ 19)) := by
        rw [toList_data, hc, Bool.eq_iff_iff]
        simp only [decide_eq_true_eq]
        exact Lib.hid ⟨fun h => ⟨h, by omega⟩, fun h => h.1⟩
      have H2 := Lib.hid h2
      clear hc hlt hv hd h2 h1
      go_enter Tryz.func43, Tryz.ntmps43
      go_wp2
      go_ret
      exact ⟨by rw [← HC.out]; rfl, rfl⟩
    · have h2d : ((s.size : Int) == 19) = false := by simp; omega
      have hr : decide (numV s.data.toList ≤ 9223372036854775807 ∧ s.size ≤ 19) = false := decide_eq_false (fun h => by omega)
      have HR := Lib.hid hr
      clear hr hlt hv hd
      go_enter Tryz.func43, Tryz.ntmps43
      go_wp2
      go_ret
      exact ⟨by rw [HR.out]; rfl, rfl⟩

end Go.Proofs.YtgelggdgbmldiaaGreatDoor
