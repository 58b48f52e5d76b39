/-
  Layer 20: contracts of package crc: the check of bytes that lie in memory. Written by an AI agent.
-/
import Derived.Test.YtpighdioomjnmabDoorProg
import Derived.Test.YtpighdioomjnmabDoorCrcM
import Derived.WalkKit
import Derived.WalkLawsBesides
import Derived.WalkSpells
import Derived.Outline
import Derived.Below
import Derived.IntWalk
import Derived.Laws.BitsAllLaws
import Derived.Lib.Hide
namespace Go.Proofs.YtpighdioomjnmabDoor
open Go.RowKit

/-- The table lies in the program's variable. -/
def HasTab (w : World) : Prop := ∀ i, i < 16 → w.cell? ⟨0, i, none⟩ = some (.int .u32 ((tabN i : Nat) : Int))
/-- Bytes that lie in memory. -/
def HasBytes (w : World) (b off : Nat) (l : List Nat) : Prop := ∀ i, i < l.length → w.cell? ⟨b, off + i, none⟩ = some (.int .u8 ((l.getD i 0 : Nat) : Int))

theorem u32_and15 (a : Nat) (h : a < 4294967296) : bits .and .u32 (a : Int) 15 = ((a % 16 : Nat) : Int) := by
  have := u32_and_nat a 15 h (by omega)
  rw [Nat.and_two_pow_sub_one_eq_mod (n := 4)] at this
  exact this
theorem div16 (a : Nat) : ((a : Int) / 16) = ((a / 16 : Nat) : Int) := by omega

set_option maxHeartbeats 400000 in
theorem go_any (b off cap : Nat) (l : List Nat) (c : Nat) (w : World) (hm : l.length ≤ 9223372036854775807) (hcc : c < 4294967296) (hl : ∀ v ∈ l, v < 256)
    (hc : HasBytes w b off l) (ht : HasTab w) :
    Calls Tryd.prog 11 #[.int .u32 (c : Int), .slice (some ⟨b, off, none⟩) l.length cap] w fun e w' => e = .returned (.int .u32 ((goN c l : Nat) : Int)) ∧ w = w' := by
  have e0 : bits BinOp.xor IntKind.u32 IntKind.u32.max (c : Int) = ((c ^^^ 4294967295 : Nat) : Int) := by
    have := u32_xor_nat 4294967295 c (by omega) hcc
    rw [Nat.xor_comm]
    exact this
  obtain ⟨n, hn⟩ : ∃ n : Nat, n = l.length := ⟨_, rfl⟩
  rw [← hn] at hm ⊢
  have HN := Lib.hid hn
  clear hn
  have HC := Lib.hid hc
  have HT := Lib.hid ht
  clear hc ht
  go_enter Tryd.func11, Tryd.ntmps11
  go_wp2
  go_loop [5, 12] (fun r i => ∃ k : Nat, k ≤ n ∧ i = .int .i64 k ∧ r = .int .u32 ((runN (c ^^^ 4294967295) (l.take k) : Nat) : Int)) (fun _ i => n - (intOf i).toNat)
  case atStart => exact ⟨0, Nat.zero_le _, rfl, rfl⟩
  case round =>
    obtain ⟨k, hk, rfl, rfl⟩ := hrel
    have hrl : runN (c ^^^ 4294967295) (l.take k) < 4294967296 := runN_lt _ (fun v hv => hl v (List.mem_of_mem_take hv)) _ (xor_lt hcc (by omega))
    by_cases hlt : k < n
    · have hkl : k < l.length := by rw [← HN.out]; exact hlt
      have hsn : runN (c ^^^ 4294967295) (l.take (k + 1)) = stepN (runN (c ^^^ 4294967295) (l.take k)) (l.getD k 0) := by
        rw [List.take_succ_eq_append_getElem hkl, runN_snoc, getD_at l hkl]
      have hv : l.getD k 0 < 256 := by rw [getD_at l hkl]; exact hl _ (List.getElem_mem hkl)
      have hcell := HC.out k hkl
      have HS := Lib.hid hsn
      clear hsn
      obtain ⟨x, hx⟩ : ∃ x : Nat, x = runN (c ^^^ 4294967295) (l.take k) := ⟨_, rfl⟩
      obtain ⟨v, hv'⟩ : ∃ v : Nat, v = l.getD k 0 := ⟨_, rfl⟩
      have HX := Lib.hid hx
      have HV := Lib.hid hv'
      rw [← hx] at hrl ⊢
      rw [← hv'] at hv hcell
      clear hx hv' hkl
      obtain ⟨a1, ha1⟩ : ∃ a : Nat, a = x ^^^ v := ⟨_, rfl⟩
      obtain ⟨a2, ha2⟩ : ∃ a : Nat, a = halfN a1 := ⟨_, rfl⟩
      have l1 : a1 < 4294967296 := by rw [ha1]; exact xor_lt hrl (by omega)
      have l2 : a2 < 4294967296 := by rw [ha2]; exact halfN_lt _ l1
      have hv3 : (v : Int) % 4294967296 = (v : Int) := by omega
      have e1 : bits BinOp.xor IntKind.u32 (x : Int) (v : Int) = (a1 : Int) := by rw [ha1]; exact u32_xor_nat x v hrl (by omega)
      have e2 : bits BinOp.and IntKind.u32 (a1 : Int) 15 = ((a1 % 16 : Nat) : Int) := u32_and15 a1 l1
      have e3 : bits BinOp.xor IntKind.u32 ((a1 : Int) / 16) ((tabN (a1 % 16) : Nat) : Int) = (a2 : Int) := by
        rw [ha2, div16]; exact u32_xor_nat (a1 / 16) (tabN (a1 % 16)) (by omega) (tabN_lt _)
      have e4 : bits BinOp.and IntKind.u32 (a2 : Int) 15 = ((a2 % 16 : Nat) : Int) := u32_and15 a2 l2
      obtain ⟨a3, ha3⟩ : ∃ a : Nat, a = halfN a2 := ⟨_, rfl⟩
      have e5 : bits BinOp.xor IntKind.u32 ((a2 : Int) / 16) ((tabN (a2 % 16) : Nat) : Int) = (a3 : Int) := by
        rw [ha3, div16]; exact u32_xor_nat (a2 / 16) (tabN (a2 % 16)) (by omega) (tabN_lt _)
      have t1 := HT.out (a1 % 16) (by omega)
      have t2 := HT.out (a2 % 16) (by omega)
      obtain ⟨i1, hi1⟩ : ∃ a : Nat, a = a1 % 16 := ⟨_, rfl⟩
      obtain ⟨i2, hi2⟩ : ∃ a : Nat, a = a2 % 16 := ⟨_, rfl⟩
      have j1 : i1 < 16 := by omega
      have j2 : i2 < 16 := by omega
      rw [← hi1] at e2 e3 t1
      rw [← hi2] at e4 e5 t2
      have H1 := Lib.hid ha1
      have H2 := Lib.hid ha2
      have H3 := Lib.hid ha3
      clear ha1 ha2 ha3 hi1 hi2
      obtain ⟨q1, hq1⟩ : ∃ a : Nat, a = tabN i1 := ⟨_, rfl⟩
      obtain ⟨q2, hq2⟩ : ∃ a : Nat, a = tabN i2 := ⟨_, rfl⟩
      rw [← hq1] at e3 t1
      rw [← hq2] at e5 t2
      clear hq1 hq2
      go_wp2
      go_round
      case rel => exact ⟨k + 1, by omega, by go_num, by rw [HS.out, ← HX.out, ← HV.out, H3.out, H2.out, H1.out]; rfl⟩
      case measure => simp [intOf]; omega
    · obtain rfl : k = n := by omega
      have hf : bits BinOp.xor IntKind.u32 IntKind.u32.max ((runN (c ^^^ 4294967295) (l.take k) : Nat) : Int) = ((goN c l : Nat) : Int) := by
        rw [List.take_of_length_le (by rw [← HN.out]; exact Nat.le_refl _)] at hrl ⊢
        have := u32_xor_nat 4294967295 (runN (c ^^^ 4294967295) l) (by omega) hrl
        rw [Nat.xor_comm 4294967295 (runN (c ^^^ 4294967295) l)] at this
        exact this
      have hd : decide (k < k) = false := by simp
      go_wp2
      go_ret
      exact ⟨by rfl, rfl⟩
end Go.Proofs.YtpighdioomjnmabDoor
