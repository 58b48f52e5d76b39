/-
  Layer 10: the walk of HeapFills. Written by an AI agent.
-/
import Derived.Test.YtpighdioomjnmaaHpF
namespace Go.Proofs.Ytpighdioomjnmaa
open Go.RowKit
set_option linter.unusedVariables false

def zeros (j n : Nat) : List (List Int) := List.replicate j (List.replicate n 0)
theorem zeros_length (j n : Nat) : (zeros j n).length = j := by simp [zeros]
theorem zeros_flat (j n : Nat) : (zeros j n).flatten.length = j * n := by simp [zeros]
theorem zeros_succ (j n : Nat) : zeros j n ++ [List.replicate n 0] = zeros (j + 1) n := by unfold zeros; rw [List.replicate_succ']
theorem fits_iff (j n : Nat) : j + j * n + n + 1 ≤ 40 ↔ j < 40 / (n + 1) := by
  rw [Nat.lt_iff_add_one_le, Nat.le_div_iff_mul_le (by omega), Nat.add_mul, Nat.mul_add]
  omega
theorem cap_le (n : Nat) : 40 / (n + 1) ≤ 40 := Nat.div_le_self _ _
theorem cap_mul (n : Nat) : 40 / (n + 1) * n ≤ 40 := Nat.le_trans (Nat.mul_le_mul_left _ (by omega : n ≤ n + 1)) (Nat.div_mul_le_self _ _)

set_option maxRecDepth 100000 in
set_option maxHeartbeats 1000000 in
theorem fills_walk (z : Nat) (hz : z < 256) (w : World) :
    Calls Try.prog 7 #[.int .u8 (z : Int)] w fun e w' => e = .returned (.bool true) ∧ Below w.heap.size w w' := by
  obtain ⟨n, hn⟩ : ∃ n : Nat, n = z % 17 := ⟨_, rfl⟩
  have hn16 : n ≤ 16 := by omega
  have e0 : ((z : Int)).tmod 17 = (n : Int) := by rw [hn]; exact (Int.ofNat_tmod z 17).symm
  have e1 : (z : Int) % 17 = (n : Int) := by omega
  obtain ⟨c, hc⟩ : ∃ c : Nat, c = 40 / (n + 1) := ⟨_, rfl⟩
  have hc40 : c ≤ 40 := by rw [hc]; exact cap_le n
  have e2 : (40 : Int).tdiv ((n : Int) + 1) = (c : Int) := by rw [hc]; exact (Int.ofNat_tdiv 40 (n + 1)).symm
  have HC := Lib.hid hc
  have E0 := Lib.hid e0
  have E1 := Lib.hid e1
  have E2 := Lib.hid e2
  clear e0 e1 e2 hn hc
  go_enter Try.func7, Try.ntmps7
  go_wp2_with fail
  refine (shown_any _).mono ?_
  rintro e w1 ⟨rfl, hb1⟩
  have HB1 := Lib.hid hb1
  clear hb1
  go_wp2_with fail
  refine (new_any _).mono ?_
  rintro e w2 ⟨rfl, hw2⟩
  have H2 := heapL_new w1
  have B2 : Below w.heap.size w w2 := by rw [hw2]; exact HB1.out.alloc HB1.out.size _
  rw [← hw2] at H2
  have hp : w.heap.size ≤ w1.heap.size := HB1.out.size
  obtain ⟨p, hpe⟩ : ∃ p : Nat, p = w1.heap.size := ⟨_, rfl⟩
  rw [← hpe] at H2 hp ⊢
  have HH2 := Lib.hid H2
  have HB2 := Lib.hid B2
  clear H2 B2 hw2 hpe HB1
  go_wp2
  rw [E1.out]
  go_loopw [6, 7] (fun m i wr => ∃ (k j : Nat), k ≤ 50 ∧ j = min k c ∧ i = .int .i64 k ∧ m = .int .i64 j ∧ HeapL wr (fun b => w.heap.size ≤ b) p (zeros j n) ∧ Below w.heap.size w wr) (fun _ i _ => 50 - (intOf i).toNat)
  case atStart => exact ⟨0, 0, by omega, by omega, rfl, rfl, HH2.out.wider (fun k _ hk => by subst hk; exact hp), HB2.out⟩
  case round =>
    obtain ⟨k, j, hk, hj, rfl, rfl, hh, hb⟩ := hrel
    have HH := Lib.hid hh
    have HB := Lib.hid hb
    have HJ := Lib.hid hj
    have hjk : j ≤ k := by omega
    have hj40 : j ≤ c := by omega
    clear hh hb hj
    by_cases h50 : k < 50
    · have h50' : (k : Int) < 50 := by omega
      by_cases hjc : j < c
      · have hfit : j + j * n + n + 1 ≤ 40 := (fits_iff j n).2 (by rw [← HC.out]; exact hjc)
        have MC := Lib.hid (make_ok wr _ p (zeros j n) HH.out n hn16 (by rw [zeros_length, zeros_flat]; exact hfit))
        clear hfit
        go_wp2_with fail
        refine MC.out.mono ?_
        rintro e w3 ⟨rfl, H3, K3⟩
        rw [zeros_length]
        rw [zeros_succ] at H3
        have HH3 := Lib.hid H3
        have HK3 := Lib.hid K3
        clear H3 K3
        go_wp2
        go_roundw
        case rel =>
          have hs := HB.out.size
          have hs3 := HK3.out.size
          have hj := HJ.out
          exact ⟨k + 1, j + 1, by omega, by omega, by go_num, by go_num, HH3.out.wider (fun b _ hb => by rcases hb with hb | hb; exact hb; omega), HB.out.trans (HK3.out.toBelow hs (fun b hb => hb))⟩
        case measure => simp [intOf]; omega
      · have hnot : 40 < j + j * n + n + 1 := by
          have := mt (fits_iff j n).1 (by rw [← HC.out]; exact hjc)
          omega
        have hjn : j * n ≤ 40 := Nat.le_trans (Nat.mul_le_mul_right n (by omega : j ≤ c)) (by rw [HC.out]; exact cap_mul n)
        have MC := Lib.hid (make_no wr _ p (zeros j n) HH.out (by rw [zeros_length]; omega) (by rw [zeros_flat]; omega) n hn16 (by rw [zeros_length, zeros_flat]; exact hnot))
        clear hnot hjn
        go_wp2_with fail
        refine MC.out.mono ?_
        rintro e w3 ⟨rfl, q, hq⟩
        have HK3 : Hid (Keeps (fun _ => False) wr w3) := by rw [hq]; exact keeps_drewN _ wr q
        clear hq
        go_wp2
        go_roundw
        case rel =>
          have hs := HB.out.size
          have hj := HJ.out
          exact ⟨k + 1, j, by omega, by omega, by go_num, rfl, HH.out.keep HK3.out (fun _ _ _ h => h), HB.out.trans (HK3.out.toBelow hs (fun b hb => hb.elim))⟩
        case measure => simp [intOf]; omega
    · obtain rfl : k = 50 := by omega
      obtain rfl : j = c := by have hj := HJ.out; omega
      clear HJ
      have LC := Lib.hid (lists_ok wr _ p (zeros j n) HH.out (by rw [zeros_length]; omega) (by rw [zeros_flat, HC.out]; exact Nat.le_trans (cap_mul n) (by omega)))
      have e2 := E2.out
      go_wp2_with fail
      refine LC.out.mono ?_
      rintro e w3 ⟨v, cap, A, rfl, rfl, H4, K4⟩
      have hb3 : Below w.heap.size w w3 := HB.out.trans (K4.toBelow HB.out.size (fun b hb => hb.elim))
      have HB3 := Lib.hid hb3
      clear H4 K4 hb3
      rw [zeros_length]
      go_wp2
      go_ret
      exact ⟨rfl, HB3.out⟩

end Go.Proofs.Ytpighdioomjnmaa
