/-
  Layer 16: the contracts of the document's Insert and Merge. Written by an AI agent.
-/
import Derived.Test.YtpighdioomjnmabEdH
import Derived.BigQuiet
namespace Go.Proofs.Ytpighdioomjnmab
open Go.RowKit Go.Shelf
set_option linter.unusedVariables false
set_option linter.unusedSimpArgs false

theorem refE_zero (L : List Ed) (x : Ed) : refE L x 0 = [] := by unfold refE; rw [if_pos (Nat.zero_le _)]; rfl

set_option maxRecDepth 100000 in
set_option maxHeartbeats 4000000 in
theorem rinsert_any (w : World) (A : Option Addr) (c : Nat) (L : List Ed) (hA : RdE w A L) (hn : L.length ≤ 1000) (xt : Int) (xnm : ByteArray) (xty xn : Int) (xs : ByteArray) :
    Calls Try.prog 44 #[.slice A L.length c, .agg #[.int .i64 xt, .string xnm, .int .i64 xty, .int .i64 xn, .string xs]] w (NewE (insE L ⟨xt, xnm, xty, xn, xs⟩) w) := by
  obtain ⟨i0, hi, hz0, hz1, hz2⟩ := info_parts info49
  obtain ⟨N, hN⟩ : ∃ N : Nat, N = L.length := ⟨_, rfl⟩
  obtain ⟨p, hp⟩ : ∃ p : Nat, p = plE L xt := ⟨_, rfl⟩
  have hpN := plE_le L xt
  rw [← hp, ← hN] at hpN
  obtain ⟨w0, hw0⟩ : ∃ w0 : World, w0 = w.alloc (.cells #[.int .i64 xt, .string xnm, .int .i64 xty, .int .i64 xn, .string xs] 49) := ⟨_, rfl⟩
  obtain ⟨B, hB⟩ : ∃ B : Nat, B = w0.heap.size := ⟨_, rfl⟩
  have k01 : Keeps (fun _ => False) w w0 := by rw [hw0]; exact (Keeps.refl _ _).alloc _
  have s0 : w0.heap.size = w.heap.size + 1 := by rw [hw0]; simp
  have hax : ∀ wq, Keeps (fun _ => False) w0 wq → wq.cell? ⟨w.heap.size, 0, none⟩ = some (.int .i64 xt) ∧ wq.cell? ⟨w.heap.size, 1, none⟩ = some (.string xnm) ∧ wq.cell? ⟨w.heap.size, 2, none⟩ = some (.int .i64 xty) ∧ wq.cell? ⟨w.heap.size, 3, none⟩ = some (.int .i64 xn) ∧ wq.cell? ⟨w.heap.size, 4, none⟩ = some (.string xs) ∧ w.heap.size < wq.heap.size := fun wq hq => by
    have hl : w.heap.size < w0.heap.size := by omega
    have hs := hq.size
    refine ⟨(hq.cell hl (fun h => h)).trans ?_, (hq.cell hl (fun h => h)).trans ?_, (hq.cell hl (fun h => h)).trans ?_, (hq.cell hl (fun h => h)).trans ?_, (hq.cell hl (fun h => h)).trans ?_, by omega⟩ <;> (rw [hw0]; simp)
  have HAX := Lib.hid hax
  have HA := Lib.hid (hA.keep k01)
  have HN := Lib.hid hN
  have HP := Lib.hid hp
  have HB := Lib.hid hB
  have K01 := Lib.hid k01
  have S0 := Lib.hid s0
  have T0 := Lib.hid (AccE.lit w0)
  rw [← hN] at hn ⊢
  clear hA hN hB hp k01 s0 hax
  go_enter Try.func44, Try.ntmps44
  go_upto_region 2 with fail
  rw [← hw0, show w.heap.size + 1 = B by have := S0.out; have := HB.out; omega]
  rw [show w0.heap.size = B from HB.out.symm] at T0
  clear hw0
  obtain ⟨w1, hw1⟩ : ∃ w1 : World, w1 = w0.alloc (.cells #[] 49) := ⟨_, rfl⟩
  have K1 := Lib.hid (show Keeps (fun _ => False) w0 w1 by rw [hw1]; exact (Keeps.refl _ _).alloc _)
  rw [← hw1] at T0 ⊢
  clear hw1
  go_wp2_with fail
  go_loopw [5, 6, 7] (fun s5 s6 s7 wr => ∃ k m : Nat, k ≤ N ∧ m ≤ k + 1 ∧ s6 = .bool (decide (p < k)) ∧ s7 = .int .i64 k ∧ AccE B wr s5 m (refE L ⟨xt, xnm, xty, xn, xs⟩ k) ∧ Keeps (fun _ => False) w0 wr) (fun _ _ s7 _ => N - (intOf s7).toNat)
  case atStart => exact ⟨0, 0, Nat.zero_le _, Nat.zero_le _, by simp, rfl, by rw [refE_zero]; exact T0.out, K1.out⟩
  case round =>
    obtain ⟨k, m, hk, hm, rfl, rfl, ht, kr⟩ := hrel
    by_cases hkN : k < N
    · have hkN' : (k : Int) < (N : Int) := by omega
      have hk0 : (0 : Int) ≤ (k : Int) := by omega
      have hkL : k < L.length := by rw [← HN.out]; exact hkN
      have hfa : ∀ wq, Keeps (fun _ => False) w0 wq → ∃ b off, A = some ⟨b, off, none⟩ ∧ wq.cell? ⟨b, off + k * 5, none⟩ = some (.int .i64 (L.getD k default).t) ∧ wq.cell? ⟨b, off + k * 5 + 1, none⟩ = some (.string (L.getD k default).nm) ∧ wq.cell? ⟨b, off + k * 5 + 2, none⟩ = some (.int .i64 (L.getD k default).ty) ∧ wq.cell? ⟨b, off + k * 5 + 3, none⟩ = some (.int .i64 (L.getD k default).n) ∧ wq.cell? ⟨b, off + k * 5 + 4, none⟩ = some (.string (L.getD k default).s) ∧ b < wq.heap.size := fun wq hq => by
        obtain ⟨b, off, e, hc⟩ := (HA.out.keep hq) (by omega)
        obtain ⟨c0, c1, c2, c3, c4⟩ := hc k hkL
        exact ⟨b, off, e, c0, c1, c2, c3, c4, cell_ltk c0⟩
      obtain ⟨b, off, rfl, hdrop⟩ := hfa wr kr
      clear hdrop
      have hfb : ∀ wq, Keeps (fun _ => False) w0 wq → wq.cell? ⟨b, off + k * 5, none⟩ = some (.int .i64 (L.getD k default).t) ∧ wq.cell? ⟨b, off + k * 5 + 1, none⟩ = some (.string (L.getD k default).nm) ∧ wq.cell? ⟨b, off + k * 5 + 2, none⟩ = some (.int .i64 (L.getD k default).ty) ∧ wq.cell? ⟨b, off + k * 5 + 3, none⟩ = some (.int .i64 (L.getD k default).n) ∧ wq.cell? ⟨b, off + k * 5 + 4, none⟩ = some (.string (L.getD k default).s) ∧ b < wq.heap.size := fun wq hq => by
        obtain ⟨b2, off2, e, h⟩ := hfa wq hq
        injection e with e
        injection e with e1 e2
        subst e1 e2
        exact h
      have hlow : k < p → (L.getD k default).t ≤ xt := fun h => plE_low (by rw [← HP.out]; exact h)
      have hat : k = p → xt < (L.getD k default).t := fun h => by
        have h2 := plE_at (L := L) (t := xt) (by rw [← HP.out, ← h]; exact hkL)
        rw [← HP.out, ← h] at h2
        exact h2
      have hrl : k < p → refE L ⟨xt, xnm, xty, xn, xs⟩ (k + 1) = refE L ⟨xt, xnm, xty, xn, xs⟩ k ++ [L.getD k default] := fun h => refE_low (by show k < plE L xt; rw [← HP.out]; exact h)
      have hrh : p < k → refE L ⟨xt, xnm, xty, xn, xs⟩ (k + 1) = refE L ⟨xt, xnm, xty, xn, xs⟩ k ++ [L.getD k default] := fun h => refE_high (by show plE L xt < k; rw [← HP.out]; exact h) hkL
      have hra : k = p → refE L ⟨xt, xnm, xty, xn, xs⟩ (k + 1) = refE L ⟨xt, xnm, xty, xn, xs⟩ k ++ [⟨xt, xnm, xty, xn, xs⟩] ++ [L.getD k default] := fun h => by
        have h2 := refE_at (L := L) (x := ⟨xt, xnm, xty, xn, xs⟩) (by show plE L xt < L.length; rw [← HP.out, ← h]; exact hkL)
        rw [show plE L (⟨xt, xnm, xty, xn, xs⟩ : Ed).t = k from (HP.out.symm.trans h.symm)] at h2
        exact h2
      obtain ⟨y, hy⟩ : ∃ y : Ed, y = L.getD k default := ⟨_, rfl⟩
      rw [← hy] at hfb hlow hat hrl hrh hra
      obtain ⟨yt, ynm, yty, yn, ys⟩ := y
      have FB := Lib.hid hfb
      have TT := Lib.hid ht
      have KR := Lib.hid kr
      have HRL := Lib.hid hrl
      have HRH := Lib.hid hrh
      have HRA := Lib.hid hra
      clear hfa hfb hy ht kr hrl hrh hra
      by_cases hkp : k < p
      · have hle : yt ≤ xt := hlow hkp
        have e6 : decide (p < k) = false := decide_eq_false (by omega)
        have hng : ¬ xt < yt := by omega
        have hd : decide (xt < yt) = false := decide_eq_false hng
        have HS := Lib.hid (HRL.out hkp)
        rw [e6]
        clear HRL HRH HRA hlow hat
        obtain ⟨cr0, cr1, cr2, cr3, cr4, crl⟩ := FB.out wr KR.out
        have crn : b ≠ wr.heap.size := by omega
        obtain ⟨ar0, ar1, ar2, ar3, ar4, arl⟩ := HAX.out wr KR.out
        have arn : w.heap.size ≠ wr.heap.size := by omega
        go_wp2_with fail
        go_quiet (fail)
        rename_i nq
        obtain ⟨wq, hwq⟩ : ∃ wq : World, wq = wr.drewN nq := ⟨_, rfl⟩
        have kq : Keeps (fun _ => False) w0 wq := by rw [hwq]; exact (KR.out.trans (T := fun _ => False) ⟨rfl, rfl, rfl, Nat.le_refl _, fun _ _ _ => rfl⟩ (fun _ _ h => h))
        have tq := TT.out.keep (w' := wq) (by rw [hwq]; exact ⟨rfl, rfl, rfl, Nat.le_refl _, fun _ _ _ => rfl⟩)
        have KQ := Lib.hid kq
        have TQ := Lib.hid tq
        rw [← hwq]
        clear hwq kq tq
        clear cr0 cr1 cr2 cr3 cr4 crl crn ar0 ar1 ar2 ar3 ar4 arl arn
        obtain ⟨cq0, cq1, cq2, cq3, cq4, cql⟩ := FB.out wq KQ.out
        have cqn : b ≠ wq.heap.size := by omega
        go_wp2_with (at_builtin; refine wpList_append_atk rfl (.tmp 31) (.tmp 36) 43 rfl 0 49 i0 _ 5 56 Try.underlying43 hi hz0 hz1 hz2 (by rfl) (by omega) _ m _ (by rfl) (own_of TQ.out.own ((Keeps.refl _ wq).alloc _)) ⟨wq.heap.size, 0, none⟩ 1 1 (⟨yt, ynm, yty, yn, ys⟩ : Ed).cells (by rfl) (by rfl) (news5 ⟨yt, ynm, yty, yn, ys⟩ 49 (by rfl)) (Ed.one _) (by omega) (by omega) (Nat.zero_le _) ?_
                     intro v5 w5 h5 g5 b5
                     have t5 := TQ.out.next (M := refE L ⟨xt, xnm, xty, xn, xs⟩ (k + 1)) (by have := HB.out; have := KQ.out.size; omega) ((Keeps.refl _ wq).alloc _) h5 (by rw [HS.out]; rw [flatE_append]; simp [flatE]) (by rw [HS.out]; rw [List.length_append, ← TQ.out.len]; rfl) g5 b5
                     have T5 := Lib.hid t5.1
                     have K5 := Lib.hid (kfalse KQ.out t5.2 HB.out)
                     clear h5 g5 b5 t5)
        go_roundw
        case rel => exact ⟨k + 1, m + 1, by omega, by omega, by rw [decide_eq_false (show ¬ p < k + 1 by omega)], by go_num, T5.out, K5.out⟩
        case measure => simp [intOf]; omega
      by_cases hke : k = p
      · have hgt : xt < yt := hat hke
        have hd : decide (xt < yt) = true := decide_eq_true hgt
        have HS := Lib.hid (HRA.out hke)
        have e6 : decide (p < k) = false := decide_eq_false (by omega)
        have hmk : m = k := by have h := TT.out.len; rw [h]; unfold refE; rw [if_pos (by show k ≤ plE L xt; rw [← HP.out]; omega), List.length_take]; omega
        have e7 : decide (p < k + 1) = true := decide_eq_true (by omega)
        rw [e6]
        subst hke
        clear HRL HRH HRA hlow hat
        obtain ⟨cr0, cr1, cr2, cr3, cr4, crl⟩ := FB.out wr KR.out
        have crn : b ≠ wr.heap.size := by omega
        obtain ⟨ar0, ar1, ar2, ar3, ar4, arl⟩ := HAX.out wr KR.out
        have arn : w.heap.size ≠ wr.heap.size := by omega
        go_wp2_with fail
        go_quiet (fail)
        rename_i nq
        obtain ⟨wq, hwq⟩ : ∃ wq : World, wq = wr.drewN nq := ⟨_, rfl⟩
        have kq : Keeps (fun _ => False) w0 wq := by rw [hwq]; exact (KR.out.trans (T := fun _ => False) ⟨rfl, rfl, rfl, Nat.le_refl _, fun _ _ _ => rfl⟩ (fun _ _ h => h))
        have tq := TT.out.keep (w' := wq) (by rw [hwq]; exact ⟨rfl, rfl, rfl, Nat.le_refl _, fun _ _ _ => rfl⟩)
        have KQ := Lib.hid kq
        have TQ := Lib.hid tq
        rw [← hwq]
        clear hwq kq tq
        clear cr0 cr1 cr2 cr3 cr4 crl crn ar0 ar1 ar2 ar3 ar4 arl arn
        obtain ⟨cq0, cq1, cq2, cq3, cq4, cql⟩ := FB.out wq KQ.out
        have cqn : b ≠ wq.heap.size := by omega
        obtain ⟨aq0, aq1, aq2, aq3, aq4, aql⟩ := HAX.out wq KQ.out
        have aqn : w.heap.size ≠ wq.heap.size := by omega
        go_upto_region 9 with (at_builtin; refine wpList_append_atk rfl (.tmp 27) (.tmp 29) 43 rfl 0 49 i0 _ 5 56 Try.underlying43 hi hz0 hz1 hz2 (by rfl) (by omega) _ m _ (by rfl) (own_of TQ.out.own ((Keeps.refl _ wq).alloc _)) ⟨wq.heap.size, 0, none⟩ 1 1 (⟨xt, xnm, xty, xn, xs⟩ : Ed).cells (by rfl) (by rfl) (news5 ⟨xt, xnm, xty, xn, xs⟩ 49 (by rfl)) (Ed.one _) (by omega) (by omega) (Nat.zero_le _) ?_
                               intro v5 w5 h5 g5 b5
                               have t5 := TQ.out.next (M := refE L ⟨xt, xnm, xty, xn, xs⟩ k ++ [⟨xt, xnm, xty, xn, xs⟩]) (by have := HB.out; have := KQ.out.size; omega) ((Keeps.refl _ wq).alloc _) h5 (by rw [flatE_append]; simp [flatE]) (by rw [List.length_append, ← TQ.out.len]; rfl) g5 b5
                               have T5 := Lib.hid t5.1
                               have K5 := Lib.hid (kfalse KQ.out t5.2 HB.out)
                               clear h5 g5 b5 t5)
        clear cq0 cq1 cq2 cq3 cq4 cql cqn aq0 aq1 aq2 aq3 aq4 aql aqn
        obtain ⟨cp0, cp1, cp2, cp3, cp4, cpl⟩ := FB.out w5 K5.out
        have cpn : b ≠ w5.heap.size := by omega
        go_wp2_with (at_builtin; refine wpList_append_atk rfl (.tmp 31) (.tmp 36) 43 rfl 0 49 i0 _ 5 56 Try.underlying43 hi hz0 hz1 hz2 (by rfl) (by omega) _ (m + 1) _ (by rfl) (own_of T5.out.own ((Keeps.refl _ w5).alloc _)) ⟨w5.heap.size, 0, none⟩ 1 1 (⟨yt, ynm, yty, yn, ys⟩ : Ed).cells (by rfl) (by rfl) (news5 ⟨yt, ynm, yty, yn, ys⟩ 49 (by rfl)) (Ed.one _) (by omega) (by omega) (Nat.zero_le _) ?_
                     intro v6 w6 h6 g6 b6
                     have t6 := T5.out.next (M := refE L ⟨xt, xnm, xty, xn, xs⟩ (k + 1)) (by have := HB.out; have := K5.out.size; omega) ((Keeps.refl _ w5).alloc _) h6 (by rw [HS.out]; rw [flatE_append]; simp [flatE]) (by rw [HS.out]; rw [List.length_append, ← T5.out.len]; rfl) g6 b6
                     have T6 := Lib.hid t6.1
                     have K6 := Lib.hid (kfalse K5.out t6.2 HB.out)
                     clear h6 g6 b6 t6)
        go_roundw
        case rel => exact ⟨k + 1, m + 1 + 1, by omega, by have := hmk; omega, by rw [e7], by go_num, T6.out, K6.out⟩
        case measure => simp [intOf]; omega
      have hkg : p < k := by omega
      have e6 : decide (p < k) = true := decide_eq_true hkg
      have HS := Lib.hid (HRH.out hkg)
      rw [e6]
      clear HRL HRH HRA hlow hat
      obtain ⟨cr0, cr1, cr2, cr3, cr4, crl⟩ := FB.out wr KR.out
      have crn : b ≠ wr.heap.size := by omega
      obtain ⟨ar0, ar1, ar2, ar3, ar4, arl⟩ := HAX.out wr KR.out
      have arn : w.heap.size ≠ wr.heap.size := by omega
      go_wp2_with fail
      go_quiet (fail)
      rename_i nq
      obtain ⟨wq, hwq⟩ : ∃ wq : World, wq = wr.drewN nq := ⟨_, rfl⟩
      have kq : Keeps (fun _ => False) w0 wq := by rw [hwq]; exact (KR.out.trans (T := fun _ => False) ⟨rfl, rfl, rfl, Nat.le_refl _, fun _ _ _ => rfl⟩ (fun _ _ h => h))
      have tq := TT.out.keep (w' := wq) (by rw [hwq]; exact ⟨rfl, rfl, rfl, Nat.le_refl _, fun _ _ _ => rfl⟩)
      have KQ := Lib.hid kq
      have TQ := Lib.hid tq
      rw [← hwq]
      clear hwq kq tq
      clear cr0 cr1 cr2 cr3 cr4 crl crn ar0 ar1 ar2 ar3 ar4 arl arn
      obtain ⟨cq0, cq1, cq2, cq3, cq4, cql⟩ := FB.out wq KQ.out
      have cqn : b ≠ wq.heap.size := by omega
      go_wp2_with (at_builtin; refine wpList_append_atk rfl (.tmp 31) (.tmp 36) 43 rfl 0 49 i0 _ 5 56 Try.underlying43 hi hz0 hz1 hz2 (by rfl) (by omega) _ m _ (by rfl) (own_of TQ.out.own ((Keeps.refl _ wq).alloc _)) ⟨wq.heap.size, 0, none⟩ 1 1 (⟨yt, ynm, yty, yn, ys⟩ : Ed).cells (by rfl) (by rfl) (news5 ⟨yt, ynm, yty, yn, ys⟩ 49 (by rfl)) (Ed.one _) (by omega) (by omega) (Nat.zero_le _) ?_
                   intro v5 w5 h5 g5 b5
                   have t5 := TQ.out.next (M := refE L ⟨xt, xnm, xty, xn, xs⟩ (k + 1)) (by have := HB.out; have := KQ.out.size; omega) ((Keeps.refl _ wq).alloc _) h5 (by rw [HS.out]; rw [flatE_append]; simp [flatE]) (by rw [HS.out]; rw [List.length_append, ← TQ.out.len]; rfl) g5 b5
                   have T5 := Lib.hid t5.1
                   have K5 := Lib.hid (kfalse KQ.out t5.2 HB.out)
                   clear h5 g5 b5 t5)
      go_roundw
      case rel => exact ⟨k + 1, m + 1, by omega, by omega, by rw [decide_eq_true (show p < k + 1 by omega)], by go_num, T5.out, K5.out⟩
      case measure => simp [intOf]; omega
    · obtain rfl : k = N := by omega
      have hd : decide (k < k) = false := by simp
      have hall := refE_all L ⟨xt, xnm, xty, xn, xs⟩
      rw [← HN.out, show plE L (⟨xt, xnm, xty, xn, xs⟩ : Ed).t = p from HP.out.symm] at hall
      have HAL := Lib.hid hall
      have TT := Lib.hid ht
      have KR := Lib.hid kr
      clear ht kr hall
      by_cases hpk : p < k
      · have e6 : decide (p < k) = true := decide_eq_true hpk
        rw [e6]
        have e := HAL.out
        rw [if_neg (by omega)] at e
        obtain ⟨A5, c5, rfl⟩ := own_formk TT.out.own
        have hfin : NewE (insE L ⟨xt, xnm, xty, xn, xs⟩) w (.returned (.slice A5 m c5)) wr := by
          have h := TT.out.fin HB.out KR.out
          rw [e] at h
          obtain ⟨A6, c6, e6, o6, b6, k6⟩ := h
          exact ⟨A6, c6, e6, o6, fun g hg => by have := b6 g hg; have := S0.out; omega, K01.out.trans k6 (fun _ _ h => h)⟩
        have HF := Lib.hid hfin
        clear e hfin
        go_wp2
        go_ret
        exact HF.out
      · have e6 : decide (p < k) = false := decide_eq_false hpk
        rw [e6]
        have e := HAL.out
        rw [if_pos (by omega)] at e
        have HE := Lib.hid e
        clear e
        obtain ⟨ar0, ar1, ar2, ar3, ar4, arl⟩ := HAX.out wr KR.out
        have arn : w.heap.size ≠ wr.heap.size := by omega
        go_wp2_with (at_builtin; refine wpList_append_atk rfl (.tmp 40) (.tmp 42) 43 rfl 0 49 i0 _ 5 56 Try.underlying43 hi hz0 hz1 hz2 (by rfl) (by omega) _ m _ (by rfl) (own_of TT.out.own ((Keeps.refl _ wr).alloc _)) ⟨wr.heap.size, 0, none⟩ 1 1 (⟨xt, xnm, xty, xn, xs⟩ : Ed).cells (by rfl) (by rfl) (news5 ⟨xt, xnm, xty, xn, xs⟩ 49 (by rfl)) (Ed.one _) (by omega) (by omega) (Nat.zero_le _) ?_
                     intro v5 w5 h5 g5 b5
                     have t5 := TT.out.next (M := insE L ⟨xt, xnm, xty, xn, xs⟩) (by have := HB.out; have := KR.out.size; omega) ((Keeps.refl _ wr).alloc _) h5 (by rw [← HE.out]; rw [flatE_append]; simp [flatE]) (by rw [← HE.out]; rw [List.length_append, ← TT.out.len]; rfl) g5 b5
                     have T5 := Lib.hid t5.1
                     have K5 := Lib.hid (kfalse KR.out t5.2 HB.out)
                     clear h5 g5 b5 t5
                     obtain ⟨A5, c5, rfl⟩ := own_formk T5.out.own
                     have hfin : NewE (insE L ⟨xt, xnm, xty, xn, xs⟩) w (.returned (.slice A5 (m + 1) c5)) w5 := by
                       obtain ⟨A6, c6, e6, o6, b6, k6⟩ := T5.out.fin HB.out K5.out
                       exact ⟨A6, c6, e6, o6, fun g hg => by have := b6 g hg; have := S0.out; omega, K01.out.trans k6 (fun _ _ h => h)⟩
                     have HF := Lib.hid hfin
                     clear hfin)
        go_ret
        exact HF.out

set_option maxRecDepth 100000 in
set_option maxHeartbeats 4000000 in
theorem rmerge_any (w : World) (A : Option Addr) (c : Nat) (L : List Ed) (hA : RdE w A L) (h0 : A = none → L.length = 0) (C : Option Addr) (d : Nat) (M : List Ed) (hC : RdE w C M) (hn : L.length + M.length ≤ 900) :
    Calls Try.prog 26 #[.slice A L.length c, .slice C M.length d] w (NewE (mergeE L M) w) := by
  obtain ⟨i0, hi, hz0, hz1, hz2⟩ := info_parts info49
  obtain ⟨N, hN⟩ : ∃ N : Nat, N = M.length := ⟨_, rfl⟩
  obtain ⟨n0, hn0⟩ : ∃ n : Nat, n = L.length := ⟨_, rfl⟩
  obtain ⟨B, hB⟩ : ∃ B : Nat, B = w.heap.size := ⟨_, rfl⟩
  have T0 := Lib.hid (show AccE B (w.alloc (.cells #[] 49)) (.slice (some ⟨w.heap.size, 0, none⟩) 0 0) 0 [] by rw [hB]; exact AccE.lit w)
  have ka : Keeps (fun _ => False) w (w.alloc (.cells #[] 49)) := (Keeps.refl _ _).alloc _
  have hro := (hA.keep ka).rdo
  have HR := Lib.hid hro
  have HF := Lib.hid (flatE_one L)
  have HL := Lib.hid (flatE_length L)
  have h00 := h0
  rw [← hn0] at h00
  have HC := Lib.hid hC
  have HN := Lib.hid hN
  have HN0 := Lib.hid hn0
  have HB := Lib.hid hB
  have KA := Lib.hid ka
  rw [← hN, ← hn0] at hn ⊢
  clear hA hC hN hB hn0 h0 ka hro
  go_enter Try.func26, Try.ntmps26
  go_upto_region 2 with (at_builtin; refine wpList_append_optk rfl (.tmp 7) (.tmp 8) 43 rfl 0 49 i0 _ 5 56 Try.underlying43 hi hz0 hz1 hz2 (by rfl) (by omega) _ 0 [] (by rfl) T0.out.own A n0 c (flatE L) (by rfl) (by rw [HL.out, HN0.out]) HR.out HF.out h00 (by omega) (by omega) (Nat.zero_le _) ?_
                         intro v5 w5 h5 g5 b5
                         have t5 := T0.out.next (M := L) (by have := HB.out; have := KA.out.size; omega) (Keeps.refl _ _) h5 (by simp) (by rw [Nat.zero_add]; exact HN0.out) g5 b5
                         have T5 := Lib.hid t5.1
                         have K5 := Lib.hid (kfalse KA.out t5.2 HB.out)
                         clear h5 g5 b5 t5)
  go_wp2_with fail
  go_loopw [5, 6] (fun s5 s6 wr => ∃ k : Nat, k ≤ N ∧ s6 = .int .i64 k ∧ AccE B wr s5 (n0 + k) (mergeE L (M.take k)) ∧ Keeps (fun _ => False) w wr) (fun _ s6 _ => N - (intOf s6).toNat)
  case atStart => exact ⟨0, Nat.zero_le _, rfl, by have h := T5.out; rw [Nat.zero_add] at h; exact h, K5.out⟩
  case round =>
    obtain ⟨k, hk, rfl, ht, kr⟩ := hrel
    by_cases hkN : k < N
    · have hkN' : (k : Int) < (N : Int) := by omega
      have hk0 : (0 : Int) ≤ (k : Int) := by omega
      have hkM : k < M.length := by rw [← HN.out]; exact hkN
      obtain ⟨b, off, rfl, hc⟩ := (HC.out.keep kr) (by omega)
      obtain ⟨e0, e1, e2, e3, e4⟩ := hc k hkM
      have hstep := mergeE_take L M k hkM
      obtain ⟨y, hy⟩ : ∃ y : Ed, y = M.getD k default := ⟨_, rfl⟩
      rw [← hy] at e0 e1 e2 e3 e4 hstep
      obtain ⟨R, hR⟩ : ∃ R : List Ed, R = mergeE L (M.take k) := ⟨_, rfl⟩
      rw [← hR] at ht hstep
      have hRl : n0 + k = R.length := ht.len
      obtain ⟨A5, c5, rfl⟩ := own_formk ht.own
      obtain ⟨yt, ynm, yty, yn, ys⟩ := y
      have XC := rinsert_any wr A5 c5 R (own_rdE ht.own hRl) (by omega) yt ynm yty yn ys
      rw [← hRl] at XC
      have HXC := Lib.hid XC
      have HRl := Lib.hid hRl
      have HS := Lib.hid hstep
      have KR := Lib.hid kr
      clear hc hy hstep hR hRl ht kr XC
      go_wp2_with fail
      refine HXC.out.mono ?_
      rintro e w6 ⟨A6, c6, rfl, o6, b6, k6⟩
      have hl : (insE R ⟨yt, ynm, yty, yn, ys⟩).length = n0 + k + 1 := by rw [insE_length, HRl.out]
      rw [hl] at o6 b6 ⊢
      have t6 : AccE B w6 (.slice A6 (n0 + k + 1) c6) (n0 + k + 1) (mergeE L (M.take (k + 1))) := by
        rw [← HS.out] at o6
        exact ⟨o6, by rw [HS.out]; exact hl.symm, fun g hg => by have := b6 g hg; have := HB.out; have := KR.out.size; omega⟩
      have T6 := Lib.hid t6
      have K6 := Lib.hid (KR.out.trans k6 (fun _ _ h => h))
      clear hl o6 b6 k6 t6 e0 e1 e2 e3 e4
      go_wp2
      go_roundw
      case rel => exact ⟨k + 1, by omega, by go_num, by rw [show n0 + (k + 1) = n0 + k + 1 by omega]; exact T6.out, K6.out⟩
      case measure => simp [intOf]; omega
    · obtain rfl : k = N := by omega
      have hd : decide (k < k) = false := by simp
      obtain ⟨A5, c5, rfl⟩ := own_formk ht.own
      have hfin : NewE (mergeE L M) w (.returned (.slice A5 (n0 + k) c5)) wr := by
        have h2 := ht.fin HB.out kr
        rw [HN.out, List.take_length] at h2
        rw [HN.out]
        exact h2
      have HF := Lib.hid hfin
      clear ht kr hfin
      go_wp2
      go_ret
      exact HF.out

end Go.Proofs.Ytpighdioomjnmab
