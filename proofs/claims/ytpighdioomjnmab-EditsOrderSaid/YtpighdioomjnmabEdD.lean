/-
  Layer 16: the contract of few. Written by an AI agent.
-/
import Derived.Test.YtpighdioomjnmabEdC
namespace Go.Proofs.Ytpighdioomjnmab
open Go.RowKit Go.Shelf
set_option linter.unusedVariables false
set_option linter.unusedSimpArgs false

/-- An edit of short texts. -/
def cutN (s : ByteArray) (m : Nat) : ByteArray := if m < s.size then s.extract 0 m else s
def cutEd (e : Ed) : Ed := ⟨e.t, cutN e.nm 20, e.ty, e.n, cutN e.s 60⟩
def fewE (L : List Ed) : List Ed := (L.take 10).map cutEd
theorem fewE_length (L : List Ed) : (fewE L).length ≤ 10 := by
  unfold fewE
  rw [List.length_map, List.length_take]
  omega

set_option maxRecDepth 100000 in
set_option maxHeartbeats 4000000 in
theorem few_any (w : World) (A : Option Addr) (c : Nat) (L : List Ed) (hA : RdE w A L) (hn : L.length ≤ 9223372036854775807) :
    Calls Try.prog 23 #[.slice A L.length c] w (NewE (fewE L) w) := by
  obtain ⟨i0, hi, hz0, hz1, hz2⟩ := info_parts info49
  obtain ⟨N, hN⟩ : ∃ N : Nat, N = L.length := ⟨_, rfl⟩
  obtain ⟨B, hB⟩ : ∃ B : Nat, B = w.heap.size := ⟨_, rfl⟩
  have t0 : AccE B (w.alloc (.cells #[] 49)) (.slice (some ⟨w.heap.size, 0, none⟩) 0 0) 0 [] :=
    ⟨World.ownsRow_lit (base := 0) (e := 49) (size := 5) w #[] 0 (Nat.zero_le _) (by unfold maxLen; omega) rfl, rfl, fun g hg => by have : w.heap.size = g := Option.some.inj hg; omega⟩
  have HA := Lib.hid hA
  have HN := Lib.hid hN
  have HB := Lib.hid hB
  have T0 := Lib.hid t0
  rw [← hN] at hn ⊢
  clear hA hN hB t0
  go_enter Try.func23, Try.ntmps23
  go_wp2_with fail
  go_loopw [3, 4] (fun s3 s4 wr => ∃ k : Nat, k ≤ N ∧ k ≤ 10 ∧ s4 = .int .i64 k ∧ AccE B wr s3 k ((L.take k).map cutEd) ∧ Keeps (fun _ => False) w wr) (fun _ s4 _ => N - (intOf s4).toNat)
  case atStart => exact ⟨0, Nat.zero_le _, by omega, rfl, T0.out, (Keeps.refl _ _).alloc _⟩
  case round =>
    obtain ⟨k, hk, hk10, rfl, ht, kr⟩ := hrel
    by_cases hkN : k < N
    · have hkN' : (k : Int) < (N : Int) := by omega
      by_cases h10 : k < 10
      · have h10' : (k : Int) < 10 := by omega
        have hk0 : (0 : Int) ≤ (k : Int) := by omega
        have hkL : k < L.length := by rw [← HN.out]; exact hkN
        obtain ⟨b, off, rfl, hc⟩ := (HA.out.keep kr) (by omega)
        obtain ⟨c0, c1, c2, c3, c4⟩ := hc k hkL
        obtain ⟨y, hy⟩ : ∃ y : Ed, y = L.getD k default := ⟨_, rfl⟩
        have hstep : (L.take (k + 1)).map cutEd = (L.take k).map cutEd ++ [cutEd y] := by
          rw [takeE_succ hkL, List.map_append, hy]
          rfl
        rw [← hy] at c0 c1 c2 c3 c4
        obtain ⟨yt, ynm, yty, yn, ys⟩ := y
        have HS := Lib.hid hstep
        have TT := Lib.hid ht
        have KR := Lib.hid kr
        clear hc hy hstep ht kr
        by_cases hnm : 20 < ynm.size
        · have hnmI : (20 : Int) < (ynm.size : Int) := by omega
          have hnmL : (20 : Int) ≤ (ynm.size : Int) := by omega
          have hcn : cutN ynm 20 = ynm.extract 0 20 := if_pos hnm
          by_cases hs : 60 < ys.size
          · have hsI : (60 : Int) < (ys.size : Int) := by omega
            have hsL : (60 : Int) ≤ (ys.size : Int) := by omega
            have hcs : cutN ys 60 = ys.extract 0 60 := if_pos hs
            go_wp2_with (at_builtin; refine wpList_append_atk rfl (.tmp 40) (.tmp 42) 43 rfl 0 49 i0 _ 5 56 Try.underlying43 hi hz0 hz1 hz2 (by rfl) (by omega) _ k _ (by rfl) (own_of TT.out.own (((Keeps.refl _ wr).alloc _).alloc _)) ⟨wr.heap.size + 1, 0, none⟩ 1 1 (⟨yt, ynm.extract 0 20, yty, yn, ys.extract 0 60⟩ : Ed).cells (by rfl) (by rfl) (news5 (⟨yt, ynm.extract 0 20, yty, yn, ys.extract 0 60⟩ : Ed) 49 (by simp)) (Ed.one _) (by omega) (by omega) (Nat.zero_le _) ?_
                         intro v5 w5 h5 g5 b5
                         have hce : cutEd ⟨yt, ynm, yty, yn, ys⟩ = (⟨yt, ynm.extract 0 20, yty, yn, ys.extract 0 60⟩ : Ed) := by unfold cutEd; rw [hcn, hcs]
                         have t5 := TT.out.next (M := (L.take (k + 1)).map cutEd) (by have := HB.out; have := KR.out.size; omega) (((Keeps.refl _ wr).alloc _).alloc _) h5 (by rw [HS.out, flatE_append, hce]; simp [flatE]) (by rw [HS.out, List.length_append, ← TT.out.len]; rfl) g5 b5
                         have T5 := Lib.hid t5.1
                         have K5 := Lib.hid (kfalse KR.out t5.2 HB.out)
                         clear h5 g5 b5 t5 hce)
            go_roundw
            case rel => exact ⟨k + 1, by omega, by omega, by go_num, T5.out, K5.out⟩
            case measure => simp [intOf]; omega
          · have hsI : ¬ (60 : Int) < (ys.size : Int) := by omega
            have hcs : cutN ys 60 = ys := if_neg hs
            go_wp2_with (at_builtin; refine wpList_append_atk rfl (.tmp 40) (.tmp 42) 43 rfl 0 49 i0 _ 5 56 Try.underlying43 hi hz0 hz1 hz2 (by rfl) (by omega) _ k _ (by rfl) (own_of TT.out.own (((Keeps.refl _ wr).alloc _).alloc _)) ⟨wr.heap.size + 1, 0, none⟩ 1 1 (⟨yt, ynm.extract 0 20, yty, yn, ys⟩ : Ed).cells (by rfl) (by rfl) (news5 (⟨yt, ynm.extract 0 20, yty, yn, ys⟩ : Ed) 49 (by simp)) (Ed.one _) (by omega) (by omega) (Nat.zero_le _) ?_
                         intro v5 w5 h5 g5 b5
                         have hce : cutEd ⟨yt, ynm, yty, yn, ys⟩ = (⟨yt, ynm.extract 0 20, yty, yn, ys⟩ : Ed) := by unfold cutEd; rw [hcn, hcs]
                         have t5 := TT.out.next (M := (L.take (k + 1)).map cutEd) (by have := HB.out; have := KR.out.size; omega) (((Keeps.refl _ wr).alloc _).alloc _) h5 (by rw [HS.out, flatE_append, hce]; simp [flatE]) (by rw [HS.out, List.length_append, ← TT.out.len]; rfl) g5 b5
                         have T5 := Lib.hid t5.1
                         have K5 := Lib.hid (kfalse KR.out t5.2 HB.out)
                         clear h5 g5 b5 t5 hce)
            go_roundw
            case rel => exact ⟨k + 1, by omega, by omega, by go_num, T5.out, K5.out⟩
            case measure => simp [intOf]; omega
        · have hnmI : ¬ (20 : Int) < (ynm.size : Int) := by omega
          have hcn : cutN ynm 20 = ynm := if_neg hnm
          by_cases hs : 60 < ys.size
          · have hsI : (60 : Int) < (ys.size : Int) := by omega
            have hsL : (60 : Int) ≤ (ys.size : Int) := by omega
            have hcs : cutN ys 60 = ys.extract 0 60 := if_pos hs
            go_wp2_with (at_builtin; refine wpList_append_atk rfl (.tmp 40) (.tmp 42) 43 rfl 0 49 i0 _ 5 56 Try.underlying43 hi hz0 hz1 hz2 (by rfl) (by omega) _ k _ (by rfl) (own_of TT.out.own (((Keeps.refl _ wr).alloc _).alloc _)) ⟨wr.heap.size + 1, 0, none⟩ 1 1 (⟨yt, ynm, yty, yn, ys.extract 0 60⟩ : Ed).cells (by rfl) (by rfl) (news5 (⟨yt, ynm, yty, yn, ys.extract 0 60⟩ : Ed) 49 (by simp)) (Ed.one _) (by omega) (by omega) (Nat.zero_le _) ?_
                         intro v5 w5 h5 g5 b5
                         have hce : cutEd ⟨yt, ynm, yty, yn, ys⟩ = (⟨yt, ynm, yty, yn, ys.extract 0 60⟩ : Ed) := by unfold cutEd; rw [hcn, hcs]
                         have t5 := TT.out.next (M := (L.take (k + 1)).map cutEd) (by have := HB.out; have := KR.out.size; omega) (((Keeps.refl _ wr).alloc _).alloc _) h5 (by rw [HS.out, flatE_append, hce]; simp [flatE]) (by rw [HS.out, List.length_append, ← TT.out.len]; rfl) g5 b5
                         have T5 := Lib.hid t5.1
                         have K5 := Lib.hid (kfalse KR.out t5.2 HB.out)
                         clear h5 g5 b5 t5 hce)
            go_roundw
            case rel => exact ⟨k + 1, by omega, by omega, by go_num, T5.out, K5.out⟩
            case measure => simp [intOf]; omega
          · have hsI : ¬ (60 : Int) < (ys.size : Int) := by omega
            have hcs : cutN ys 60 = ys := if_neg hs
            go_wp2_with (at_builtin; refine wpList_append_atk rfl (.tmp 40) (.tmp 42) 43 rfl 0 49 i0 _ 5 56 Try.underlying43 hi hz0 hz1 hz2 (by rfl) (by omega) _ k _ (by rfl) (own_of TT.out.own (((Keeps.refl _ wr).alloc _).alloc _)) ⟨wr.heap.size + 1, 0, none⟩ 1 1 (⟨yt, ynm, yty, yn, ys⟩ : Ed).cells (by rfl) (by rfl) (news5 (⟨yt, ynm, yty, yn, ys⟩ : Ed) 49 (by simp)) (Ed.one _) (by omega) (by omega) (Nat.zero_le _) ?_
                         intro v5 w5 h5 g5 b5
                         have hce : cutEd ⟨yt, ynm, yty, yn, ys⟩ = (⟨yt, ynm, yty, yn, ys⟩ : Ed) := by unfold cutEd; rw [hcn, hcs]
                         have t5 := TT.out.next (M := (L.take (k + 1)).map cutEd) (by have := HB.out; have := KR.out.size; omega) (((Keeps.refl _ wr).alloc _).alloc _) h5 (by rw [HS.out, flatE_append, hce]; simp [flatE]) (by rw [HS.out, List.length_append, ← TT.out.len]; rfl) g5 b5
                         have T5 := Lib.hid t5.1
                         have K5 := Lib.hid (kfalse KR.out t5.2 HB.out)
                         clear h5 g5 b5 t5 hce)
            go_roundw
            case rel => exact ⟨k + 1, by omega, by omega, by go_num, T5.out, K5.out⟩
            case measure => simp [intOf]; omega
      · have h10' : ¬ (k : Int) < 10 := by omega
        have hd : decide ((k : Int) < 10) = false := decide_eq_false h10'
        obtain rfl : k = 10 := by omega
        obtain ⟨A5, c5, rfl⟩ := own_formk ht.own
        have HF := Lib.hid (show NewE (fewE L) w (.returned (.slice A5 10 c5)) wr from ht.fin HB.out kr)
        clear ht kr
        go_wp2
        go_ret
        exact HF.out
    · obtain rfl : k = N := by omega
      have hd : decide (k < k) = false := by simp
      obtain ⟨A5, c5, rfl⟩ := own_formk ht.own
      have hfin : NewE (fewE L) w (.returned (.slice A5 k c5)) wr := by
        have h := ht.fin HB.out kr
        have e : (L.take k).map cutEd = fewE L := by
          unfold fewE
          rw [List.take_of_length_le (by rw [← HN.out]; exact Nat.le_refl _), List.take_of_length_le (by rw [← HN.out]; exact hk10)]
        rw [e] at h
        exact h
      have HF := Lib.hid hfin
      clear ht kr hfin
      go_wp2
      go_ret
      exact HF.out

end Go.Proofs.Ytpighdioomjnmab
