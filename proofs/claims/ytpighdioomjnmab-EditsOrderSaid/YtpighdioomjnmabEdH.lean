/-
  Layer 16: the contracts of Upto, by the code and by the document. Written by an AI agent.
-/
import Derived.Test.YtpighdioomjnmabEdC
namespace Go.Proofs.Ytpighdioomjnmab
open Go.RowKit Go.Shelf
set_option linter.unusedVariables false
set_option linter.unusedSimpArgs false

theorem AccE.nil (B : Nat) (w : World) : AccE B w (.slice none 0 0) 0 [] := ⟨World.ownsRow_nil _ _ _ _, rfl, by simp [Value.ownBlock]⟩
theorem AccE.lit (w : World) : AccE w.heap.size (w.alloc (.cells #[] 49)) (.slice (some ⟨w.heap.size, 0, none⟩) 0 0) 0 [] :=
  ⟨World.ownsRow_lit (base := 0) (e := 49) (size := 5) w #[] 0 (Nat.zero_le _) (by unfold maxLen; omega) rfl, rfl, fun g hg => by have : w.heap.size = g := Option.some.inj hg; omega⟩

set_option maxRecDepth 100000 in
set_option maxHeartbeats 4000000 in
theorem upto_any (w : World) (A : Option Addr) (c : Nat) (L : List Ed) (hA : RdE w A L) (hn : L.length ≤ 1000) (t : Int) :
    Calls Try.prog 30 #[.slice A L.length c, .int .i64 t] w (NewE (uptoE L t) w) := by
  obtain ⟨i0, hi, hz0, hz1, hz2⟩ := info_parts info49
  obtain ⟨N, hN⟩ : ∃ N : Nat, N = L.length := ⟨_, rfl⟩
  obtain ⟨B, hB⟩ : ∃ B : Nat, B = w.heap.size := ⟨_, rfl⟩
  have t0 := AccE.nil B w
  have HA := Lib.hid hA
  have HN := Lib.hid hN
  have HB := Lib.hid hB
  have T0 := Lib.hid t0
  rw [← hN] at hn ⊢
  clear hA hN hB t0
  go_enter Try.func30, Try.ntmps30
  go_wp2_with fail
  go_loopw [5, 10] (fun so si wr => ∃ k m : Nat, k ≤ N ∧ m ≤ k ∧ si = .int .i64 k ∧ AccE B wr so m (uptoE (L.take k) t) ∧ Keeps (fun _ => False) w wr) (fun _ si _ => N - (intOf si).toNat)
  case atStart => exact ⟨0, 0, Nat.zero_le _, Nat.le_refl _, rfl, T0.out, Keeps.refl _ _⟩
  case round =>
    obtain ⟨k, m, hk, hm, rfl, ht, kr⟩ := hrel
    by_cases hkN : k < N
    · have hkN' : (k : Int) < (N : Int) := by omega
      have hk0 : (0 : Int) ≤ (k : Int) := by omega
      have hkL : k < L.length := by rw [← HN.out]; exact hkN
      obtain ⟨b, off, rfl, hc⟩ := (HA.out.keep kr) (by omega)
      obtain ⟨c0, c1, c2, c3, c4⟩ := hc k hkL
      have hstep := uptoE_take L t k hkL
      obtain ⟨y, hy⟩ : ∃ y : Ed, y = L.getD k default := ⟨_, rfl⟩
      rw [← hy] at c0 c1 c2 c3 c4 hstep
      obtain ⟨yt, ynm, yty, yn, ys⟩ := y
      have hbl := cell_ltk c0
      have hne : b ≠ wr.heap.size := by omega
      have TT := Lib.hid ht
      have KR := Lib.hid kr
      by_cases hyt : yt ≤ t
      · have hd : decide (yt ≤ t) = true := decide_eq_true hyt
        rw [if_pos hyt] at hstep
        have HS := Lib.hid hstep
        clear hc hy hstep ht kr
        go_wp2_with (at_builtin; refine wpList_append_atk rfl (.tmp 18) (.tmp 20) 43 rfl 0 49 i0 _ 5 56 Try.underlying43 hi hz0 hz1 hz2 (by rfl) (by omega) _ m _ (by rfl) (own_of TT.out.own (((Keeps.refl _ wr).alloc _).alloc _)) ⟨wr.heap.size + 1, 0, none⟩ 1 1 (⟨yt, ynm, yty, yn, ys⟩ : Ed).cells (by rfl) (by rfl) (news5 ⟨yt, ynm, yty, yn, ys⟩ 49 (by simp)) (Ed.one _) (by omega) (by omega) (Nat.zero_le _) ?_
                     intro v5 w5 h5 g5 b5
                     have t5 := TT.out.next (M := uptoE (L.take (k + 1)) t) (by have := HB.out; have := KR.out.size; omega) (((Keeps.refl _ wr).alloc _).alloc _) h5 (by rw [HS.out, flatE_append]; simp [flatE]) (by rw [HS.out, List.length_append, ← TT.out.len]; rfl) g5 b5
                     have T5 := Lib.hid t5.1
                     have K5 := Lib.hid (kfalse KR.out t5.2 HB.out)
                     clear h5 g5 b5 t5)
        go_roundw
        case rel => exact ⟨k + 1, m + 1, by omega, by omega, by go_num, T5.out, K5.out⟩
        case measure => simp [intOf]; omega
      · have hd : decide (yt ≤ t) = false := decide_eq_false hyt
        rw [if_neg hyt] at hstep
        have HS := Lib.hid hstep
        clear hc hy hstep ht kr
        go_wp2
        go_roundw
        case rel => exact ⟨k + 1, m, by omega, by omega, by go_num, by rw [HS.out]; exact TT.out.keep ((Keeps.refl _ _).alloc _), KR.out.alloc _⟩
        case measure => simp [intOf]; omega
    · obtain rfl : k = N := by omega
      have hd : decide (k < k) = false := by simp
      obtain ⟨A5, c5, rfl⟩ := own_formk ht.own
      have hfin : NewE (uptoE L t) w (.returned (.slice A5 m c5)) wr := by
        have h2 := ht.fin HB.out kr
        rw [HN.out, List.take_length] at h2
        exact h2
      have HF := Lib.hid hfin
      clear ht kr hfin
      go_wp2
      go_ret
      exact HF.out

set_option maxRecDepth 100000 in
set_option maxHeartbeats 4000000 in
theorem rupto_any (w : World) (A : Option Addr) (c : Nat) (L : List Ed) (hA : RdE w A L) (hn : L.length ≤ 1000) (t : Int) :
    Calls Try.prog 31 #[.slice A L.length c, .int .i64 t] w (NewE (uptoE L t) w) := by
  obtain ⟨i0, hi, hz0, hz1, hz2⟩ := info_parts info49
  obtain ⟨N, hN⟩ : ∃ N : Nat, N = L.length := ⟨_, rfl⟩
  obtain ⟨B, hB⟩ : ∃ B : Nat, B = w.heap.size := ⟨_, rfl⟩
  have t0 := (by rw [hB]; exact AccE.lit w : AccE B (w.alloc (.cells #[] 49)) (.slice (some ⟨w.heap.size, 0, none⟩) 0 0) 0 [])
  have HA := Lib.hid hA
  have HN := Lib.hid hN
  have HB := Lib.hid hB
  have T0 := Lib.hid t0
  rw [← hN] at hn ⊢
  clear hA hN hB t0
  go_enter Try.func31, Try.ntmps31
  go_wp2_with fail
  go_loopw [5, 6] (fun so si wr => ∃ k m : Nat, k ≤ N ∧ m ≤ k ∧ si = .int .i64 k ∧ AccE B wr so m (uptoE (L.take k) t) ∧ Keeps (fun _ => False) w wr) (fun _ si _ => N - (intOf si).toNat)
  case atStart => exact ⟨0, 0, Nat.zero_le _, Nat.le_refl _, rfl, T0.out, (Keeps.refl _ _).alloc _⟩
  case round =>
    obtain ⟨k, m, hk, hm, rfl, ht, kr⟩ := hrel
    by_cases hkN : k < N
    · have hkN' : (k : Int) < (N : Int) := by omega
      have hk0 : (0 : Int) ≤ (k : Int) := by omega
      have hkL : k < L.length := by rw [← HN.out]; exact hkN
      obtain ⟨b, off, rfl, hc⟩ := (HA.out.keep kr) (by omega)
      obtain ⟨c0, c1, c2, c3, c4⟩ := hc k hkL
      have hstep := uptoE_take L t k hkL
      obtain ⟨y, hy⟩ : ∃ y : Ed, y = L.getD k default := ⟨_, rfl⟩
      rw [← hy] at c0 c1 c2 c3 c4 hstep
      obtain ⟨yt, ynm, yty, yn, ys⟩ := y
      have hbl := cell_ltk c0
      have hne : b ≠ wr.heap.size := by omega
      have TT := Lib.hid ht
      have KR := Lib.hid kr
      by_cases hyt : yt ≤ t
      · have hd : decide (yt ≤ t) = true := decide_eq_true hyt
        rw [if_pos hyt] at hstep
        have HS := Lib.hid hstep
        clear hc hy hstep ht kr
        go_wp2_with (at_builtin; refine wpList_append_atk rfl (.tmp 21) (.tmp 26) 43 rfl 0 49 i0 _ 5 56 Try.underlying43 hi hz0 hz1 hz2 (by rfl) (by omega) _ m _ (by rfl) (own_of TT.out.own ((Keeps.refl _ wr).alloc _)) ⟨wr.heap.size, 0, none⟩ 1 1 (⟨yt, ynm, yty, yn, ys⟩ : Ed).cells (by rfl) (by rfl) (news5 ⟨yt, ynm, yty, yn, ys⟩ 49 (by simp)) (Ed.one _) (by omega) (by omega) (Nat.zero_le _) ?_
                     intro v5 w5 h5 g5 b5
                     have t5 := TT.out.next (M := uptoE (L.take (k + 1)) t) (by have := HB.out; have := KR.out.size; omega) ((Keeps.refl _ wr).alloc _) h5 (by rw [HS.out, flatE_append]; simp [flatE]) (by rw [HS.out, List.length_append, ← TT.out.len]; rfl) g5 b5
                     have T5 := Lib.hid t5.1
                     have K5 := Lib.hid (kfalse KR.out t5.2 HB.out)
                     clear h5 g5 b5 t5)
        go_roundw
        case rel => exact ⟨k + 1, m + 1, by omega, by omega, by go_num, T5.out, K5.out⟩
        case measure => simp [intOf]; omega
      · have hd : decide (yt ≤ t) = false := decide_eq_false hyt
        rw [if_neg hyt] at hstep
        have HS := Lib.hid hstep
        clear hc hy hstep ht kr
        go_wp2
        go_roundw
        case rel => exact ⟨k + 1, m, by omega, by omega, by go_num, by rw [HS.out]; exact TT.out, KR.out⟩
        case measure => simp [intOf]; omega
    · obtain rfl : k = N := by omega
      have hd : decide (k < k) = false := by simp
      obtain ⟨A5, c5, rfl⟩ := own_formk ht.own
      have hfin : NewE (uptoE L t) w (.returned (.slice A5 m c5)) wr := by
        have h2 := ht.fin HB.out kr
        rw [HN.out, List.take_length] at h2
        exact h2
      have HF := Lib.hid hfin
      clear ht kr hfin
      go_wp2
      go_ret
      exact HF.out

end Go.Proofs.Ytpighdioomjnmab
