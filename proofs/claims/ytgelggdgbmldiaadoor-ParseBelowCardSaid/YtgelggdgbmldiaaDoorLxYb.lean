/-
  Layer 1: lines of a source, as data. Written by an AI agent.
-/
import Derived.Test.YtgelggdgbmldiaaDoorLxA
namespace Go.Proofs.YtgelggdgbmldiaaDoor
set_option linter.unusedVariables false
set_option linter.unusedSimpArgs false

def lineL (l : List UInt8) (a : Int) : Nat := if a < 0 then 1 else 1 + (l.take a.toNat).count 10
def stepL (l : List UInt8) (a : Int) : Nat := if 0 ≤ a ∧ l[a.toNat]? = some 10 then 1 else 0
theorem line_pos (l : List UInt8) (a : Int) : 1 ≤ lineL l a := by unfold lineL; split <;> omega
theorem line_zero (l : List UInt8) : lineL l 0 = 1 := by unfold lineL; simp
theorem line_le (l : List UInt8) (a : Int) : lineL l a ≤ 1 + l.length := by
  unfold lineL
  split
  · omega
  · have h1 := List.count_le_length (a := (10 : UInt8)) (l := l.take a.toNat)
    have h2 := List.length_take_le a.toNat l
    rw [List.length_take] at h1
    omega
theorem line_next (l : List UInt8) (a : Int) : lineL l (a + 1) = lineL l a + stepL l a := by
  by_cases h : a < 0
  · have hs : stepL l a = 0 := by unfold stepL; rw [if_neg (by omega)]
    have h1 : lineL l a = 1 := by unfold lineL; rw [if_pos h]
    rw [hs, h1]
    unfold lineL
    by_cases h2 : a + 1 < 0
    · rw [if_pos h2]
    · rw [if_neg h2, show (a + 1).toNat = 0 by omega]
      simp
  · unfold lineL
    rw [if_neg (by omega), if_neg h, show (a + 1).toNat = a.toNat + 1 by omega, List.take_add_one, List.count_append]
    unfold stepL
    cases hc : l[a.toNat]? with
    | none => simp
    | some c =>
      by_cases h10 : c = 10
      · rw [if_pos ⟨by omega, by rw [h10]⟩, h10]
        simp
        omega
      · rw [if_neg (by rintro ⟨_, e⟩; exact h10 (Option.some.inj e))]
        simp [h10]

end Go.Proofs.YtgelggdgbmldiaaDoor
