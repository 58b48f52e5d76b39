/-
  Layer 20: contracts of the document's answer, bit by bit. Written by an AI agent.
-/
import Derived.Test.YtpighdioomjnmabDoorCrcG
import Derived.Test.YtpighdioomjnmabDoorCrcO
namespace Go.Proofs.YtpighdioomjnmabDoor
open Go.RowKit

theorem hK_last (j a : Nat) : hK (j + 1) a = hN (hK j a) := hK_add j 1 a
theorem hK_lt (j : Nat) : ∀ a, a < 4294967296 → hK j a < 4294967296 := by
  induction j with
  | zero => intro a h; exact h
  | succ j ih => intro a h; exact ih _ (hN_lt h)

set_option maxHeartbeats 1000000 in
theorem ref_go_any (b off cap : Nat) (l : List Nat) (c : Nat) (w : World) (hm : l.length ≤ 9223372036854775807) (hcc : c < 4294967296) (hl : ∀ v ∈ l, v < 256)
    (hc : HasBytes w b off l) :
    Calls Tryd.prog 12 #[.int .u32 (c : Int), .slice (some ⟨b, off, none⟩) l.length cap] w fun e w' => e = .returned (.int .u32 ((goN c l : Nat) : Int)) ∧ w = w' := by
  have e0 : bits BinOp.xor IntKind.u32 IntKind.u32.max (c : Int) = ((c ^^^ 4294967295 : Nat) : Int) := by
    have := u32_xor_nat 4294967295 c (by omega) hcc
    rw [Nat.xor_comm]
    exact this
  obtain ⟨n, hn⟩ : ∃ n : Nat, n = l.length := ⟨_, rfl⟩
  rw [← hn] at hm ⊢
  have HN := Lib.hid hn
  clear hn
  have HC := Lib.hid hc
  clear hc
  go_enter Tryd.func12, Tryd.ntmps12
  go_wp2
  go_loop [5, 6] (fun r i => ∃ k : Nat, k ≤ n ∧ i = .int .i64 k ∧ r = .int .u32 ((runN (c ^^^ 4294967295) (l.take k) : Nat) : Int)) (fun _ i => n - (intOf i).toNat)
  case atStart => exact ⟨0, Nat.zero_le _, rfl, rfl⟩
  case round =>
    obtain ⟨k, hk, rfl, rfl⟩ := hrel
    have hrl : runN (c ^^^ 4294967295) (l.take k) < 4294967296 := runN_lt _ (fun v hv => hl v (List.mem_of_mem_take hv)) _ (xor_lt hcc (by omega))
    by_cases hlt : k < n
    · have hkl : k < l.length := by rw [← HN.out]; exact hlt
      have hsn : runN (c ^^^ 4294967295) (l.take (k + 1)) = stepN (runN (c ^^^ 4294967295) (l.take k)) (l.getD k 0) := by
        rw [List.take_succ_eq_append_getElem hkl, runN_snoc, getD_at l hkl]
      have hv : l.getD k 0 < 256 := by rw [getD_at l hkl]; exact hl _ (List.getElem_mem hkl)
      have hcell := HC.out k hkl
      have HS := Lib.hid hsn
      clear hsn
      obtain ⟨x, hx⟩ : ∃ x : Nat, x = runN (c ^^^ 4294967295) (l.take k) := ⟨_, rfl⟩
      obtain ⟨v, hv'⟩ : ∃ v : Nat, v = l.getD k 0 := ⟨_, rfl⟩
      have HX := Lib.hid hx
      have HV := Lib.hid hv'
      rw [← hx] at hrl ⊢
      rw [← hv'] at hv hcell
      clear hx hv' hkl
      obtain ⟨a1, ha1⟩ : ∃ a : Nat, a = x ^^^ v := ⟨_, rfl⟩
      have l1 : a1 < 4294967296 := by rw [ha1]; exact xor_lt hrl (by omega)
      have e1 : bits BinOp.xor IntKind.u32 (x : Int) (v : Int) = (a1 : Int) := by rw [ha1]; exact u32_xor_nat x v hrl (by omega)
      have H1 := Lib.hid ha1
      clear ha1
      go_wp2
      go_loop [5, 7] (fun r q => ∃ j : Nat, j ≤ 8 ∧ q = .int .i64 j ∧ r = .int .u32 ((hK j a1 : Nat) : Int)) (fun _ q => 8 - (intOf q).toNat)
      case atStart => exact ⟨0, Nat.zero_le _, rfl, rfl⟩
      case round =>
        obtain ⟨j, hj, rfl, rfl⟩ := hrel
        by_cases hj8 : j < 8
        · have hj8' : (j : Int) < 8 := by omega
          have hyl := hK_lt j a1 l1
          have HY := Lib.hid (hK_last j a1)
          obtain ⟨y, hy⟩ : ∃ y : Nat, y = hK j a1 := ⟨_, rfl⟩
          have HYE := Lib.hid hy
          rw [← hy] at hyl ⊢
          clear hy
          by_cases hodd : y % 2 = 1
          · obtain ⟨z, hz⟩ : ∃ z : Nat, z = hN y := ⟨_, rfl⟩
            have ex : bits BinOp.xor IntKind.u32 ((y : Int) / 2) 3988292384 = (z : Int) := by
              have h := u32_xor_nat (y / 2) 3988292384 (by omega) (by omega)
              rw [hz]
              unfold hN
              rw [if_pos hodd, ← h]
              rfl
            have ho : ((y : Int) % 2 == 1) = true := by simp; omega
            have ho' : (y : Int) % 2 = 1 := by omega
            have HZ := Lib.hid hz
            clear hz hodd
            go_wp2
            go_round
            case rel => exact ⟨j + 1, by omega, by go_num, by rw [HY.out, ← HYE.out, ← HZ.out]⟩
            case measure => simp [intOf]; omega
          · have ho : ((y : Int) % 2 == 1) = false := by simp; omega
            have ho' : ¬ (y : Int) % 2 = 1 := by omega
            have HZ := Lib.hid (show hN y = y / 2 by unfold hN; rw [if_neg hodd, Nat.xor_zero])
            clear hodd
            go_wp2
            go_round
            case rel => exact ⟨j + 1, by omega, by go_num, by rw [HY.out, ← HYE.out, HZ.out]; rfl⟩
            case measure => simp [intOf]; omega
        · obtain rfl : j = 8 := by omega
          have h8 : stepN x v = hK 8 a1 := by rw [stepN_hK, H1.out]
          have H8 := Lib.hid h8
          clear h8
          obtain ⟨z, hz⟩ : ∃ z : Nat, z = hK 8 a1 := ⟨_, rfl⟩
          have HZ := Lib.hid hz
          rw [← hz]
          clear hz
          go_wp2
          go_round
          case rel => exact ⟨k + 1, by omega, by go_num, by rw [HS.out, ← HX.out, ← HV.out, H8.out, ← HZ.out]⟩
          case measure => simp [intOf]; omega
    · obtain rfl : k = n := by omega
      have hf : bits BinOp.xor IntKind.u32 IntKind.u32.max ((runN (c ^^^ 4294967295) (l.take k) : Nat) : Int) = ((goN c l : Nat) : Int) := by
        rw [List.take_of_length_le (by rw [← HN.out]; exact Nat.le_refl _)] at hrl ⊢
        have := u32_xor_nat 4294967295 (runN (c ^^^ 4294967295) l) (by omega) hrl
        rw [Nat.xor_comm 4294967295 (runN (c ^^^ 4294967295) l)] at this
        exact this
      have hd : decide (k < k) = false := by simp
      go_wp2
      go_ret
      exact ⟨by rfl, rfl⟩
end Go.Proofs.YtpighdioomjnmabDoor
