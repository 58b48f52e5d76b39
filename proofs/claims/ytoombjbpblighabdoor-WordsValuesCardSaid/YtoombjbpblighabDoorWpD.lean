/-
  Layer 22: verbs and as many words, as data. Written by an AI agent (wpd.py).
-/
import Derived.Test.YtoombjbpblighabDoorWoZ
namespace Go.Proofs.YtoombjbpblighabDoor
open Go Go.RowKit Go.Shelf
set_option linter.unusedVariables false
set_option linter.unusedSimpArgs false
set_option maxRecDepth 100000

def sevens : Nat → List UInt8
  | 0 => []
  | k + 1 => sevens k ++ [32, 55]
theorem sevens_tail (k : Nat) : sevens k = tailB (List.replicate k [55]) := by
  induction k with
  | zero => rfl
  | succ k ih =>
    rw [sevens, ih, List.replicate_succ']
    simp [tailB]
theorem sevens_len (k : Nat) : (sevens k).length = 2 * k := by
  induction k with
  | zero => rfl
  | succ k ih => rw [sevens, List.length_append, ih]; simp; omega
theorem sevens_split (X : List UInt8) (h : (32 : UInt8) ∉ X) (k : Nat) : splitSp (X ++ sevens k) = X :: List.replicate k [55] := by
  rw [sevens_tail]
  exact splitSp_all _ (fun w hw => by rw [(List.mem_replicate.1 hw).2]; decide) X h
/-- How many words a verb has, or -1. -/
def wordsN (X : List UInt8) : Int := match kindsN X with | some ks => ks.length | none => -1
theorem verb_none (X : List UInt8) (h : (32 : UInt8) ∉ X) (k : Nat) (hk : (k : Int) ≠ wordsN X) : readN (X ++ sevens k) = none := by
  rw [read_cases, sevens_split X h k]
  rw [show (X :: List.replicate k [55]).getD 0 [] = X from rfl]
  unfold wordsN at hk
  cases hx : kindsN X with
  | none => rfl
  | some ks =>
    rw [hx] at hk
    simp only at hk ⊢
    rw [if_neg]
    simp
    omega
theorem verb_some (X : List UInt8) (k : Nat) (hk : (k : Int) = wordsN X) : ∃ c, readN (X ++ sevens k) = some c ∧ c.verb = X := by
  unfold wordsN at hk
  cases hx : kindsN X with
  | none => rw [hx] at hk; simp only at hk; omega
  | some ks =>
    rw [hx] at hk
    simp only at hk
    obtain rfl : k = ks.length := by omega
    clear hk
    rcases kinds_cases hx with rfl | rfl | rfl | rfl | rfl | rfl | rfl | rfl | rfl | rfl | rfl | rfl | rfl | rfl | rfl | rfl | rfl
    · obtain rfl : [] = ks := Option.some.inj ((show kindsN [115, 116, 101, 112] = some [] by decide).symm.trans hx)
      exact ⟨hearAll [] (List.replicate 0 [55]) (zeroC [115, 116, 101, 112]), by kernel_rfl, by kernel_rfl⟩
    · obtain rfl : [] = ks := Option.some.inj ((show kindsN [98, 97, 99, 107] = some [] by decide).symm.trans hx)
      exact ⟨hearAll [] (List.replicate 0 [55]) (zeroC [98, 97, 99, 107]), by kernel_rfl, by kernel_rfl⟩
    · obtain rfl : [] = ks := Option.some.inj ((show kindsN [115, 104, 111, 119] = some [] by decide).symm.trans hx)
      exact ⟨hearAll [] (List.replicate 0 [55]) (zeroC [115, 104, 111, 119]), by kernel_rfl, by kernel_rfl⟩
    · obtain rfl : [] = ks := Option.some.inj ((show kindsN [108, 105, 115, 116] = some [] by decide).symm.trans hx)
      exact ⟨hearAll [] (List.replicate 0 [55]) (zeroC [108, 105, 115, 116]), by kernel_rfl, by kernel_rfl⟩
    · obtain rfl : [2] = ks := Option.some.inj ((show kindsN [103, 111] = some [2] by decide).symm.trans hx)
      exact ⟨hearAll [2] (List.replicate 1 [55]) (zeroC [103, 111]), by kernel_rfl, by kernel_rfl⟩
    · obtain rfl : [2] = ks := Option.some.inj ((show kindsN [105, 110, 112, 117, 116] = some [2] by decide).symm.trans hx)
      exact ⟨hearAll [2] (List.replicate 1 [55]) (zeroC [105, 110, 112, 117, 116]), by kernel_rfl, by kernel_rfl⟩
    · obtain rfl : [2] = ks := Option.some.inj ((show kindsN [108, 105, 110, 101] = some [2] by decide).symm.trans hx)
      exact ⟨hearAll [2] (List.replicate 1 [55]) (zeroC [108, 105, 110, 101]), by kernel_rfl, by kernel_rfl⟩
    · obtain rfl : [0] = ks := Option.some.inj ((show kindsN [115, 119, 105, 116, 99, 104] = some [0] by decide).symm.trans hx)
      exact ⟨hearAll [0] (List.replicate 1 [55]) (zeroC [115, 119, 105, 116, 99, 104]), by kernel_rfl, by kernel_rfl⟩
    · obtain rfl : [0] = ks := Option.some.inj ((show kindsN [100, 105, 102, 102] = some [0] by decide).symm.trans hx)
      exact ⟨hearAll [0] (List.replicate 1 [55]) (zeroC [100, 105, 102, 102]), by kernel_rfl, by kernel_rfl⟩
    · obtain rfl : [0] = ks := Option.some.inj ((show kindsN [102, 105, 114, 115, 116] = some [0] by decide).symm.trans hx)
      exact ⟨hearAll [0] (List.replicate 1 [55]) (zeroC [102, 105, 114, 115, 116]), by kernel_rfl, by kernel_rfl⟩
    · obtain rfl : [0] = ks := Option.some.inj ((show kindsN [112, 114, 117, 110, 101] = some [0] by decide).symm.trans hx)
      exact ⟨hearAll [0] (List.replicate 1 [55]) (zeroC [112, 114, 117, 110, 101]), by kernel_rfl, by kernel_rfl⟩
    · obtain rfl : [0] = ks := Option.some.inj ((show kindsN [119, 97, 116, 99, 104] = some [0] by decide).symm.trans hx)
      exact ⟨hearAll [0] (List.replicate 1 [55]) (zeroC [119, 97, 116, 99, 104]), by kernel_rfl, by kernel_rfl⟩
    · obtain rfl : [0, 1] = ks := Option.some.inj ((show kindsN [114, 101, 110, 97, 109, 101] = some [0, 1] by decide).symm.trans hx)
      exact ⟨hearAll [0, 1] (List.replicate 2 [55]) (zeroC [114, 101, 110, 97, 109, 101]), by kernel_rfl, by kernel_rfl⟩
    · obtain rfl : [0, 1] = ks := Option.some.inj ((show kindsN [114, 101, 98, 97, 115, 101] = some [0, 1] by decide).symm.trans hx)
      exact ⟨hearAll [0, 1] (List.replicate 2 [55]) (zeroC [114, 101, 98, 97, 115, 101]), by kernel_rfl, by kernel_rfl⟩
    · obtain rfl : [0, 2] = ks := Option.some.inj ((show kindsN [116, 97, 107, 101] = some [0, 2] by decide).symm.trans hx)
      exact ⟨hearAll [0, 2] (List.replicate 2 [55]) (zeroC [116, 97, 107, 101]), by kernel_rfl, by kernel_rfl⟩
    · obtain rfl : [0, 3] = ks := Option.some.inj ((show kindsN [115, 101, 116] = some [0, 3] by decide).symm.trans hx)
      exact ⟨hearAll [0, 3] (List.replicate 2 [55]) (zeroC [115, 101, 116]), by kernel_rfl, by kernel_rfl⟩
    · obtain rfl : [0, 1, 3] = ks := Option.some.inj ((show kindsN [102, 111, 114, 107] = some [0, 1, 3] by decide).symm.trans hx)
      exact ⟨hearAll [0, 1, 3] (List.replicate 3 [55]) (zeroC [102, 111, 114, 107]), by kernel_rfl, by kernel_rfl⟩
def verbsL : List (List UInt8) := [[115, 116, 101, 112], [98, 97, 99, 107], [115, 104, 111, 119], [108, 105, 115, 116], [103, 111], [105, 110, 112, 117, 116], [108, 105, 110, 101], [115, 119, 105, 116, 99, 104], [100, 105, 102, 102], [102, 105, 114, 115, 116], [112, 114, 117, 110, 101], [119, 97, 116, 99, 104], [114, 101, 110, 97, 109, 101], [114, 101, 98, 97, 115, 101], [116, 97, 107, 101], [115, 101, 116], [102, 111, 114, 107]]
def countsL : List Int := [0, 0, 0, 0, 1, 1, 1, 1, 1, 1, 1, 1, 2, 2, 2, 2, 3]
def findN (X : List UInt8) : Nat → Int
  | 0 => -1
  | i + 1 => if verbsL.getD i [] = X then countsL.getD i 0 else findN X i
theorem find_none (X : List UInt8) (h : ∀ i, i < 17 → verbsL.getD i [] ≠ X) : ∀ n, n ≤ 17 → findN X n = -1 := by
  intro n
  induction n with
  | zero => intro _; rfl
  | succ n ih =>
    intro hn
    rw [findN, if_neg (h n (by omega)), ih (by omega)]
theorem find_words (X : List UInt8) : findN X 17 = wordsN X := by
  unfold wordsN
  cases hx : kindsN X with
  | some ks =>
    rcases kinds_cases hx with rfl | rfl | rfl | rfl | rfl | rfl | rfl | rfl | rfl | rfl | rfl | rfl | rfl | rfl | rfl | rfl | rfl
    · obtain rfl : [] = ks := Option.some.inj ((show kindsN [115, 116, 101, 112] = some [] by decide).symm.trans hx)
      decide
    · obtain rfl : [] = ks := Option.some.inj ((show kindsN [98, 97, 99, 107] = some [] by decide).symm.trans hx)
      decide
    · obtain rfl : [] = ks := Option.some.inj ((show kindsN [115, 104, 111, 119] = some [] by decide).symm.trans hx)
      decide
    · obtain rfl : [] = ks := Option.some.inj ((show kindsN [108, 105, 115, 116] = some [] by decide).symm.trans hx)
      decide
    · obtain rfl : [2] = ks := Option.some.inj ((show kindsN [103, 111] = some [2] by decide).symm.trans hx)
      decide
    · obtain rfl : [2] = ks := Option.some.inj ((show kindsN [105, 110, 112, 117, 116] = some [2] by decide).symm.trans hx)
      decide
    · obtain rfl : [2] = ks := Option.some.inj ((show kindsN [108, 105, 110, 101] = some [2] by decide).symm.trans hx)
      decide
    · obtain rfl : [0] = ks := Option.some.inj ((show kindsN [115, 119, 105, 116, 99, 104] = some [0] by decide).symm.trans hx)
      decide
    · obtain rfl : [0] = ks := Option.some.inj ((show kindsN [100, 105, 102, 102] = some [0] by decide).symm.trans hx)
      decide
    · obtain rfl : [0] = ks := Option.some.inj ((show kindsN [102, 105, 114, 115, 116] = some [0] by decide).symm.trans hx)
      decide
    · obtain rfl : [0] = ks := Option.some.inj ((show kindsN [112, 114, 117, 110, 101] = some [0] by decide).symm.trans hx)
      decide
    · obtain rfl : [0] = ks := Option.some.inj ((show kindsN [119, 97, 116, 99, 104] = some [0] by decide).symm.trans hx)
      decide
    · obtain rfl : [0, 1] = ks := Option.some.inj ((show kindsN [114, 101, 110, 97, 109, 101] = some [0, 1] by decide).symm.trans hx)
      decide
    · obtain rfl : [0, 1] = ks := Option.some.inj ((show kindsN [114, 101, 98, 97, 115, 101] = some [0, 1] by decide).symm.trans hx)
      decide
    · obtain rfl : [0, 2] = ks := Option.some.inj ((show kindsN [116, 97, 107, 101] = some [0, 2] by decide).symm.trans hx)
      decide
    · obtain rfl : [0, 3] = ks := Option.some.inj ((show kindsN [115, 101, 116] = some [0, 3] by decide).symm.trans hx)
      decide
    · obtain rfl : [0, 1, 3] = ks := Option.some.inj ((show kindsN [102, 111, 114, 107] = some [0, 1, 3] by decide).symm.trans hx)
      decide
  | none =>
    refine find_none X (fun i hi e => ?_) 17 (Nat.le_refl _)
    subst e
    revert hx
    have : i = 0 ∨ i = 1 ∨ i = 2 ∨ i = 3 ∨ i = 4 ∨ i = 5 ∨ i = 6 ∨ i = 7 ∨ i = 8 ∨ i = 9 ∨ i = 10 ∨ i = 11 ∨ i = 12 ∨ i = 13 ∨ i = 14 ∨ i = 15 ∨ i = 16 := by omega
    rcases this with rfl | rfl | rfl | rfl | rfl | rfl | rfl | rfl | rfl | rfl | rfl | rfl | rfl | rfl | rfl | rfl | rfl <;> decide
end Go.Proofs.YtoombjbpblighabDoor
