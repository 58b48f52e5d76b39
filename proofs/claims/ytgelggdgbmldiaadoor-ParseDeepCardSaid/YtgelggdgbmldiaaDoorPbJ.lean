/-
  Layer 2: what parentheses and signs within each other are. Written by an AI agent.
-/
import Derived.Test.YtgelggdgbmldiaaDoorPbI
namespace Go.Proofs.YtgelggdgbmldiaaDoor
open Go Go.RowKit Go.Shelf
set_option linter.unusedVariables false
set_option linter.unusedSimpArgs false

def deepO (b : Bool) (n : Nat) : List UInt8 := List.replicate n (if b then 45 else 40)
def deepE (b : Bool) (n : Nat) : List UInt8 := if b then [] else List.replicate n 41
def deepSrc (b : Bool) (n : Nat) : List UInt8 := [102, 110, 32, 109, 97, 105, 110, 40, 41, 32, 123, 32, 112, 114, 105, 110, 116, 32] ++ deepO b n ++ [55] ++ deepE b n ++ [59, 32, 125]
def plainN : List Nd := [⟨1, 1, 7, [], []⟩, ⟨14, 1, 0, [], [0]⟩, ⟨18, 1, 0, [], [1]⟩]
def plainF : List Fnc := [⟨[109, 97, 105, 110], 1, [], 0, 2⟩]
theorem plain_parse : allP 200 [102, 110, 32, 109, 97, 105, 110, 40, 41, 32, 123, 32, 112, 114, 105, 110, 116, 32, 55, 59, 32, 125] = some (.inr (plainN, plainF)) := by kernel_rfl
def farOK (b : Bool) (n : Nat) : Bool := match allP 200 (deepSrc b n) with
  | some (.inl pe) => decide (pe.1 = 33) && decide (pe.2 = 21)
  | _ => false
theorem far_all : ((List.range 16).all fun n => farOK true (n + 16) && farOK false (n + 16)) = true := by kernel_rfl
def signOK (n : Nat) : Bool := match allP 200 (deepSrc true n) with
  | some (.inr t) => decide (t.1.length = n + 3)
  | _ => false
theorem sign_all : ((List.range 16).all fun n => signOK n) = true := by kernel_rfl
theorem paren0 : allP 200 (deepSrc false 0) = some (.inr (plainN, plainF)) := by kernel_rfl
theorem paren1 : allP 200 (deepSrc false 1) = some (.inr (plainN, plainF)) := by kernel_rfl
theorem paren2 : allP 200 (deepSrc false 2) = some (.inr (plainN, plainF)) := by kernel_rfl
theorem paren3 : allP 200 (deepSrc false 3) = some (.inr (plainN, plainF)) := by kernel_rfl
theorem paren4 : allP 200 (deepSrc false 4) = some (.inr (plainN, plainF)) := by kernel_rfl
theorem paren5 : allP 200 (deepSrc false 5) = some (.inr (plainN, plainF)) := by kernel_rfl
theorem paren6 : allP 200 (deepSrc false 6) = some (.inr (plainN, plainF)) := by kernel_rfl
theorem paren7 : allP 200 (deepSrc false 7) = some (.inr (plainN, plainF)) := by kernel_rfl
theorem paren8 : allP 200 (deepSrc false 8) = some (.inr (plainN, plainF)) := by kernel_rfl
theorem paren9 : allP 200 (deepSrc false 9) = some (.inr (plainN, plainF)) := by kernel_rfl
theorem paren10 : allP 200 (deepSrc false 10) = some (.inr (plainN, plainF)) := by kernel_rfl
theorem paren11 : allP 200 (deepSrc false 11) = some (.inr (plainN, plainF)) := by kernel_rfl
theorem paren12 : allP 200 (deepSrc false 12) = some (.inr (plainN, plainF)) := by kernel_rfl
theorem paren13 : allP 200 (deepSrc false 13) = some (.inr (plainN, plainF)) := by kernel_rfl
theorem paren14 : allP 200 (deepSrc false 14) = some (.inr (plainN, plainF)) := by kernel_rfl
theorem paren15 : allP 200 (deepSrc false 15) = some (.inr (plainN, plainF)) := by kernel_rfl
theorem paren_all (n : Nat) (hn : n < 16) : allP 200 (deepSrc false n) = some (.inr (plainN, plainF)) := by
  have h : n = 0 ∨ n = 1 ∨ n = 2 ∨ n = 3 ∨ n = 4 ∨ n = 5 ∨ n = 6 ∨ n = 7 ∨ n = 8 ∨ n = 9 ∨ n = 10 ∨ n = 11 ∨ n = 12 ∨ n = 13 ∨ n = 14 ∨ n = 15 := by omega
  rcases h with rfl | rfl | rfl | rfl | rfl | rfl | rfl | rfl | rfl | rfl | rfl | rfl | rfl | rfl | rfl | rfl
  · exact paren0
  · exact paren1
  · exact paren2
  · exact paren3
  · exact paren4
  · exact paren5
  · exact paren6
  · exact paren7
  · exact paren8
  · exact paren9
  · exact paren10
  · exact paren11
  · exact paren12
  · exact paren13
  · exact paren14
  · exact paren15
theorem far_at (b : Bool) (n : Nat) (h1 : 16 ≤ n) (h2 : n < 32) : allP 200 (deepSrc b n) = some (.inl (33, 21)) := by
  have h := List.all_eq_true.1 far_all (n - 16) (List.mem_range.2 (by omega))
  rw [show n - 16 + 16 = n by omega, Bool.and_eq_true] at h
  have hb : farOK b n = true := by cases b; exact h.2; exact h.1
  unfold farOK at hb
  cases hp : allP 200 (deepSrc b n) with
  | none => rw [hp] at hb; cases hb
  | some res =>
    rw [hp] at hb
    cases res with
    | inr t => cases hb
    | inl pe =>
      rw [Bool.and_eq_true, decide_eq_true_eq, decide_eq_true_eq] at hb
      obtain ⟨p, q⟩ := pe
      obtain ⟨rfl, rfl⟩ := hb
      rfl
theorem sign_at (n : Nat) (h2 : n < 16) : ∃ t : List Nd × List Fnc, allP 200 (deepSrc true n) = some (.inr t) ∧ t.1.length = n + 3 := by
  have hb := List.all_eq_true.1 sign_all n (List.mem_range.2 h2)
  unfold signOK at hb
  cases hp : allP 200 (deepSrc true n) with
  | none => rw [hp] at hb; cases hb
  | some res =>
    rw [hp] at hb
    cases res with
    | inl pe => cases hb
    | inr t => exact ⟨t, rfl, of_decide_eq_true hb⟩

end Go.Proofs.YtgelggdgbmldiaaDoor
