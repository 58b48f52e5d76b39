/-
  Layer 8: the document's hasA, hasB, hasS, number, Name. Written by an AI agent.
-/
import Derived.Test.YtoombjbpblighaaDoorCoZ
namespace Go.Proofs.YtoombjbpblighaaDoor
open Go Go.RowKit Go.Shelf
set_option linter.unusedVariables false
set_option linter.unusedSimpArgs false

def hA (op : Int) : Bool := decide (hasN op = 1 ∨ hasN op = 3)
def hB (op : Int) : Bool := decide (hasN op = 3)
def hS (op : Int) : Bool := decide (hasN op = 4)
def LA : List Int := [1, 2, 3, 5, 6, 11, 12, 16, 17, 18, 19, 20, 22]
theorem LA_has (op : Int) : hA op = decide (op ∈ LA) := by
  unfold hA
  congr 1
  simp only [eq_iff_iff, LA, List.mem_cons, List.not_mem_nil, or_false]
  unfold hasN
  repeat' split
  all_goals omega
theorem hB_eq (op : Int) : hB op = decide (op = 5 ∨ op = 20) := by
  unfold hB
  congr 1
  simp only [eq_iff_iff]
  unfold hasN
  repeat' split
  all_goals omega
theorem hS_eq (op : Int) : hS op = decide (op = 4 ∨ op = 7) := by
  unfold hS
  congr 1
  simp only [eq_iff_iff]
  exact has4 op
theorem LA_cell (w : World) (k : Nat) (h : k < 13) : (w.alloc (.cells #[.int .i64 1, .int .i64 2, .int .i64 3, .int .i64 5, .int .i64 6, .int .i64 11, .int .i64 12, .int .i64 16, .int .i64 17, .int .i64 18, .int .i64 19, .int .i64 20, .int .i64 22] 3)).cell? ⟨w.heap.size, k, none⟩ = some (.int .i64 (LA.getD k 0)) := by
  match k, h with
  | 0, _ => simp [LA]
  | 1, _ => simp [LA]
  | 2, _ => simp [LA]
  | 3, _ => simp [LA]
  | 4, _ => simp [LA]
  | 5, _ => simp [LA]
  | 6, _ => simp [LA]
  | 7, _ => simp [LA]
  | 8, _ => simp [LA]
  | 9, _ => simp [LA]
  | 10, _ => simp [LA]
  | 11, _ => simp [LA]
  | 12, _ => simp [LA]

set_option maxRecDepth 100000 in
set_option maxHeartbeats 4000000 in
theorem hasA_any (op : Int) (w : World) : Calls Tryd.prog 51 #[.int .i64 op] w fun e w' => e = .returned (.bool (hA op)) ∧ Keeps (fun _ => False) w w' := by
  rw [LA_has]
  go_enter Tryd.func51, Tryd.ntmps51
  go_wp2_with fail
  have HC := Lib.hid (LA_cell w)
  have K0 : Hid (Keeps (fun _ => False) w (w.alloc (.cells #[.int .i64 1, .int .i64 2, .int .i64 3, .int .i64 5, .int .i64 6, .int .i64 11, .int .i64 12, .int .i64 16, .int .i64 17, .int .i64 18, .int .i64 19, .int .i64 20, .int .i64 22] 3))) := Lib.hid ((Keeps.refl _ _).alloc _)
  obtain ⟨wA, hwA⟩ : ∃ wA, wA = (w.alloc (.cells #[.int .i64 1, .int .i64 2, .int .i64 3, .int .i64 5, .int .i64 6, .int .i64 11, .int .i64 12, .int .i64 16, .int .i64 17, .int .i64 18, .int .i64 19, .int .i64 20, .int .i64 22] 3)) := ⟨_, rfl⟩
  rw [← hwA] at HC K0 ⊢
  clear hwA
  go_loopw [4] (fun s4 wr => ∃ i : Nat, i ≤ 13 ∧ s4 = .int .i64 i ∧ (∀ k, k < i → LA.getD k 0 ≠ op) ∧ wr = wA) (fun s4 _ => 13 - (intOf s4).toNat)
  case atStart => exact ⟨0, Nat.zero_le _, rfl, fun k h => by omega, rfl⟩
  case round =>
    obtain ⟨i, hi, rfl, hno, rfl⟩ := hrel
    have HNO := Lib.hid hno
    clear hno
    by_cases h1 : i < 13
    · have h1I : (i : Int) < 13 := by omega
      have h1d : decide ((i : Int) < 13) = true := decide_eq_true h1I
      have hi0 : (0 : Int) ≤ (i : Int) := by omega
      have hc := HC.out i h1
      obtain ⟨z, hz⟩ : ∃ z, z = LA.getD i 0 := ⟨_, rfl⟩
      rw [← hz] at hc
      have HZ := Lib.hid hz
      have hmem : z ∈ LA := by rw [hz]; simp [List.getD, show i < LA.length from h1]
      have HM := Lib.hid hmem
      clear hz hmem
      by_cases h2 : z = op
      · have h2d : decide (z = op) = true := decide_eq_true h2
        have h2b : (z == op) = true := by simpa using h2
        have HT : Hid (decide (op ∈ LA) = true) := Lib.hid (decide_eq_true (h2 ▸ HM.out))
        clear h2
        go_wp2
        go_ret
        rw [HT.out]
        exact ⟨rfl, K0.out⟩
      · have h2d : decide (z = op) = false := decide_eq_false h2
        have h2b : (z == op) = false := by simpa using h2
        have HN2 : Hid (∀ k, k < i + 1 → LA.getD k 0 ≠ op) := Lib.hid fun k hk => by
          rcases Nat.lt_or_ge k i with h | h
          · exact HNO.out k h
          · obtain rfl : k = i := by omega
            rw [← HZ.out]
            exact h2
        clear h2
        go_wp2
        go_roundw
        case rel => exact ⟨i + 1, by omega, by go_num, HN2.out, trivial⟩
        case measure => simp [intOf]; omega
    · obtain rfl : i = 13 := by omega
      have HF : Hid (decide (op ∈ LA) = false) := Lib.hid (decide_eq_false fun h => by
        obtain ⟨k, hk, e⟩ := List.mem_iff_getElem.1 h
        exact HNO.out k hk (by rw [← e]; simp [List.getD, hk]))
      go_wp2
      go_ret
      rw [HF.out]
      exact ⟨rfl, K0.out⟩
set_option maxHeartbeats 1000000 in
theorem hasB_any (op : Int) (w : World) : Calls Tryd.prog 52 #[.int .i64 op] w fun e w' => e = .returned (.bool (hB op)) ∧ w = w' := by
  rw [hB_eq]
  by_cases h1 : op = 5
  · subst h1
    go_enter Tryd.func52, Tryd.ntmps52
    go_wp2
    go_ret
    exact ⟨rfl, rfl⟩
  · have h1d : decide (op = 5) = false := decide_eq_false h1
    have h1b : (op == 5) = false := by simpa using h1
    by_cases h2 : op = 20
    · subst h2
      go_enter Tryd.func52, Tryd.ntmps52
      go_wp2
      go_ret
      exact ⟨rfl, rfl⟩
    · have h2d : decide (op = 20) = false := decide_eq_false h2
      have h2b : (op == 20) = false := by simpa using h2
      have HF : Hid (decide (op = 5 ∨ op = 20) = false) := Lib.hid (decide_eq_false (by omega))
      go_enter Tryd.func52, Tryd.ntmps52
      go_wp2
      go_ret
      rw [HF.out]
      exact ⟨rfl, rfl⟩
set_option maxHeartbeats 1000000 in
theorem hasS_any (op : Int) (w : World) : Calls Tryd.prog 53 #[.int .i64 op] w fun e w' => e = .returned (.bool (hS op)) ∧ w = w' := by
  rw [hS_eq]
  by_cases h1 : op = 4
  · subst h1
    go_enter Tryd.func53, Tryd.ntmps53
    go_wp2
    go_ret
    exact ⟨rfl, rfl⟩
  · have h1d : decide (op = 4) = false := decide_eq_false h1
    have h1b : (op == 4) = false := by simpa using h1
    by_cases h2 : op = 7
    · subst h2
      go_enter Tryd.func53, Tryd.ntmps53
      go_wp2
      go_ret
      exact ⟨rfl, rfl⟩
    · have h2d : decide (op = 7) = false := decide_eq_false h2
      have h2b : (op == 7) = false := by simpa using h2
      have HF : Hid (decide (op = 4 ∨ op = 7) = false) := Lib.hid (decide_eq_false (by omega))
      go_enter Tryd.func53, Tryd.ntmps53
      go_wp2
      go_ret
      rw [HF.out]
      exact ⟨rfl, rfl⟩
/-- number: whether a number may be. -/
def numB (h : Bool) (n : Int) : Bool := if h then withinB n else decide (n = 0)
set_option maxHeartbeats 1000000 in
theorem rnum_any (h : Bool) (n : Int) (w : World) : Calls Tryd.prog 61 #[.bool h, .int .i64 n] w fun e w' => e = .returned (.bool (numB h n)) ∧ w = w' := by
  have E : Hid (numB h n = if h then (decide (0 ≤ n) && decide (n ≤ 1073741824)) else decide (n = 0)) := Lib.hid rfl
  cases h with
  | true =>
    by_cases h1 : 0 ≤ n
    · have h1d : decide (0 ≤ n) = true := decide_eq_true h1
      by_cases h2 : n ≤ 1073741824
      · have h2d : decide (n ≤ 1073741824) = true := decide_eq_true h2
        have HE : Hid (numB true n = true) := Lib.hid (by rw [E.out, h1d, h2d]; rfl)
        go_enter Tryd.func61, Tryd.ntmps61
        go_wp2
        go_ret
        rw [HE.out]
        exact ⟨rfl, rfl⟩
      · have h2d : decide (n ≤ 1073741824) = false := decide_eq_false h2
        have HE : Hid (numB true n = false) := Lib.hid (by rw [E.out, h1d, h2d]; rfl)
        go_enter Tryd.func61, Tryd.ntmps61
        go_wp2
        go_ret
        rw [HE.out]
        exact ⟨rfl, rfl⟩
    · have h1d : decide (0 ≤ n) = false := decide_eq_false h1
      have HE : Hid (numB true n = false) := Lib.hid (by rw [E.out, h1d]; rfl)
      go_enter Tryd.func61, Tryd.ntmps61
      go_wp2
      go_ret
      rw [HE.out]
      exact ⟨rfl, rfl⟩
  | false =>
    by_cases h1 : n = 0
    · subst h1
      have HE : Hid (numB false 0 = true) := Lib.hid rfl
      go_enter Tryd.func61, Tryd.ntmps61
      go_wp2
      go_ret
      rw [HE.out]
      exact ⟨rfl, rfl⟩
    · have h1d : decide (n = 0) = false := decide_eq_false h1
      have h1b : (n == 0) = false := by simpa using h1
      have HE : Hid (numB false n = false) := Lib.hid (by rw [E.out]; exact h1d)
      go_enter Tryd.func61, Tryd.ntmps61
      go_wp2
      go_ret
      rw [HE.out]
      exact ⟨rfl, rfl⟩
end Go.Proofs.YtoombjbpblighaaDoor
