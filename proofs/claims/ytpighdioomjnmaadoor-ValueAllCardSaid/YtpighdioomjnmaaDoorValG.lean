/-
  Layer 5: unlike numbers have unlike numerals. Written by an AI agent.
-/
import Derived.Lib.ItoaMem
import Derived.Lib.Strings
namespace Go.Proofs.YtpighdioomjnmaaDoor.textsof
open Go.Lib

def valD (l : List UInt8) : Nat := l.foldl (fun a c => a * 10 + (c.toNat - 48)) 0

theorem valD_snoc (l : List UInt8) (c : UInt8) : valD (l ++ [c]) = valD l * 10 + (c.toNat - 48) := by
  unfold valD
  rw [List.foldl_append]
  rfl

theorem digit_toNat (k : Nat) (h : k < 10) : (UInt8.ofNat (48 + k)).toNat = 48 + k := by
  rw [UInt8.toNat_ofNat']
  exact Nat.mod_eq_of_lt (by omega)

theorem val_dec (u : Nat) : valD (decDigits u) = u := by
  induction u using Nat.strongRecOn with
  | _ u ih =>
    by_cases h : u < 10
    · rw [decDigits, dif_pos h]
      show 0 * 10 + ((UInt8.ofNat (48 + u)).toNat - 48) = u
      rw [digit_toNat u h]
      omega
    · rw [decDigits, dif_neg h, valD_snoc, ih (u / 10) (by omega), digit_toNat _ (by omega)]
      omega

theorem dec_big (u : Nat) : ∀ c ∈ decDigits u, 48 ≤ c.toNat := by
  induction u using Nat.strongRecOn with
  | _ u ih =>
    intro c hc
    by_cases h : u < 10
    · rw [decDigits, dif_pos h] at hc
      rw [List.mem_singleton.1 hc, digit_toNat u h]
      omega
    · rw [decDigits, dif_neg h] at hc
      rcases List.mem_append.1 hc with h1 | h1
      · exact ih (u / 10) (by omega) c h1
      · rw [List.mem_singleton.1 h1, digit_toNat _ (by omega)]
        omega

theorem dec_inj {u v : Nat} (h : decDigits u = decDigits v) : u = v := by
  rw [← val_dec u, ← val_dec v, h]

theorem dec_no_minus (u : Nat) (l : List UInt8) : ¬ decDigits u = 45 :: l := by
  intro h
  have := dec_big u 45 (by rw [h]; simp)
  exact absurd this (by decide)

theorem itoa_inj {a b : Int} (h : itoa a = itoa b) : a = b := by
  unfold itoa at h
  by_cases ha : a < 0 <;> by_cases hb : b < 0
  · rw [if_pos ha, if_pos hb] at h
    have := dec_inj (List.cons.inj h).2
    omega
  · rw [if_pos ha, if_neg hb] at h
    exact absurd h.symm (dec_no_minus _ _)
  · rw [if_neg ha, if_pos hb] at h
    exact absurd h (dec_no_minus _ _)
  · rw [if_neg ha, if_neg hb] at h
    have := dec_inj h
    omega

theorem itoa_beq (a b : Int) : ((⟨(itoa a).toArray⟩ : ByteArray).toList == (⟨(itoa b).toArray⟩ : ByteArray).toList) = decide (a = b) := by
  rw [toList_data, toList_data]
  by_cases h : a = b
  · subst h
    simp
  · have : ¬ itoa a = itoa b := fun e => h (itoa_inj e)
    simp [h, this]
end Go.Proofs.YtpighdioomjnmaaDoor.textsof
