/-
  Layer 22: values in lines, as data. Written by an AI agent.
-/
import Derived.Test.YtoombjbpblighabDoorWoZ
namespace Go.Proofs.YtoombjbpblighabDoor
open Go Go.RowKit Go.Shelf
set_option linter.unusedVariables false
set_option linter.unusedSimpArgs false
set_option maxRecDepth 100000

theorem parse_app (l m : List UInt8) : ∀ (acc v : Nat), Lib.parseUint10 acc l = .ok v → Lib.parseUint10 acc (l ++ m) = Lib.parseUint10 v m := by
  induction l with
  | nil =>
    intro acc v h
    simp only [Lib.parseUint10] at h
    injection h with h
    rw [h]
    rfl
  | cons c l ih =>
    intro acc v h
    rw [List.cons_append]
    rw [Lib.parseUint10] at h ⊢
    split at h
    · rename_i g
      rw [if_pos g]
      split at h
      · cases h
      · rename_i g2
        rw [if_neg g2]
        split at h
        · cases h
        · rename_i g3
          rw [if_neg g3]
          exact ih _ _ h
    · cases h
open Lib in
theorem parse_dec (u : Nat) : u < 18446744073709551616 → Lib.parseUint10 0 (decDigits u) = .ok u := by
  induction u using Nat.strongRecOn with
  | _ u ih =>
    intro hu
    by_cases h : u < 10
    · rw [decDigits, dif_pos h, Lib.parseUint10, digit_toNat u h, if_pos (by omega), if_neg (by omega), if_neg (by omega), Lib.parseUint10]
      congr 1
      omega
    · have h1 := ih (u / 10) (by omega) (by omega)
      rw [decDigits, dif_neg h, parse_app _ _ _ _ h1, Lib.parseUint10, digit_toNat _ (by omega), if_pos (by omega), if_neg (by omega), if_neg (by omega), Lib.parseUint10]
      congr 1
      omega
open Lib in
theorem dec_ne (u : Nat) : decDigits u ≠ [] := by
  rw [decDigits]
  split <;> simp
open Lib in
theorem dec_zero (u : Nat) : ∀ r, decDigits u = 48 :: r → u = 0 ∧ r = [] := by
  induction u using Nat.strongRecOn with
  | _ u ih =>
    intro r hr
    by_cases h : u < 10
    · have ht := digit_toNat u h
      rw [decDigits, dif_pos h] at hr
      have h1 := (List.cons.inj hr).1
      rw [h1] at ht
      refine ⟨?_, (List.cons.inj hr).2.symm⟩
      have : (48 : UInt8).toNat = 48 := rfl
      omega
    · rw [decDigits, dif_neg h] at hr
      cases hd : decDigits (u / 10) with
      | nil => exact absurd hd (dec_ne _)
      | cons c t =>
        rw [hd, List.cons_append] at hr
        have hc := (List.cons.inj hr).1
        subst hc
        have := (ih (u / 10) (by omega) t hd).1
        omega
open Lib in
theorem mag_dec (u : Nat) (h : u < 18446744073709551616) : parseMag (decDigits u) = .ok u := by
  unfold parseMag
  rw [if_neg (dec_ne u)]
  exact parse_dec u h
open Lib in
theorem numN_itoa (n : Int) (h : Rng n) : numN (itoa n) = n := by
  apply numN_ok
  have h0 := h.1
  have h1 := h.2
  unfold itoa
  split
  · rename_i g
    rw [atoiAll_minus, mag_dec _ (by omega)]
    simp only [signed]
    rw [if_neg (by omega)]
    congr 1
    omega
  · rename_i g
    have hm := mag_dec n.toNat (by omega)
    cases hd : decDigits n.toNat with
    | nil => exact absurd hd (dec_ne _)
    | cons c r =>
      have hb := dec_big n.toNat c (by rw [hd]; simp)
      rw [hd] at hm
      rw [atoiAll_plain c r (by omega) (by omega), hm]
      simp only [signless]
      rw [if_neg (by omega)]
      congr 1
      omega
end Go.Proofs.YtoombjbpblighabDoor
