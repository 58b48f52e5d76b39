/-
  Layer 1: lines of a source. Written by an AI agent.
-/
import Derived.Test.YtoombjbpblighaaDoorLxX
namespace Go.Proofs.YtoombjbpblighaaDoor
open Go.RowKit Go.Shelf
set_option linter.unusedVariables false
set_option linter.unusedSimpArgs false

def lineL (l : List UInt8) (a : Int) : Nat := if a < 0 then 1 else 1 + (l.take a.toNat).count 10
def stepL (l : List UInt8) (a : Int) : Nat := if 0 ≤ a ∧ l[a.toNat]? = some 10 then 1 else 0
theorem line_pos (l : List UInt8) (a : Int) : 1 ≤ lineL l a := by unfold lineL; split <;> omega
theorem line_zero (l : List UInt8) : lineL l 0 = 1 := by unfold lineL; simp
theorem line_le (l : List UInt8) (a : Int) : lineL l a ≤ 1 + l.length := by
  unfold lineL
  split
  · omega
  · have h1 := List.count_le_length (a := (10 : UInt8)) (l := l.take a.toNat)
    have h2 := List.length_take_le a.toNat l
    rw [List.length_take] at h1
    omega
theorem line_next (l : List UInt8) (a : Int) : lineL l (a + 1) = lineL l a + stepL l a := by
  by_cases h : a < 0
  · have hs : stepL l a = 0 := by unfold stepL; rw [if_neg (by omega)]
    have h1 : lineL l a = 1 := by unfold lineL; rw [if_pos h]
    rw [hs, h1]
    unfold lineL
    by_cases h2 : a + 1 < 0
    · rw [if_pos h2]
    · rw [if_neg h2, show (a + 1).toNat = 0 by omega]
      simp
  · unfold lineL
    rw [if_neg (by omega), if_neg h, show (a + 1).toNat = a.toNat + 1 by omega, List.take_add_one, List.count_append]
    unfold stepL
    cases hc : l[a.toNat]? with
    | none => simp
    | some c =>
      by_cases h10 : c = 10
      · rw [if_pos ⟨by omega, by rw [h10]⟩, h10]
        simp
        omega
      · rw [if_neg (by rintro ⟨_, e⟩; exact h10 (Option.some.inj e))]
        simp [h10]

set_option maxRecDepth 100000 in
set_option maxHeartbeats 4000000 in
theorem short_any (s : ByteArray) (w : World) : Calls Tryd.prog 16 #[.string s] w fun e w' => (∃ x : ByteArray, x.size ≤ 700 ∧ e = .returned (.string x)) ∧ w' = w := by
  by_cases h : 700 < s.size
  · have hI : (700 : Int) < (s.size : Int) := by omega
    have hI2 : (700 : Int) ≤ (s.size : Int) := by omega
    have H := Lib.hid (show (s.extract 0 700).size ≤ 700 by rw [ext_size s 700 (by omega)]; omega)
    clear h
    go_enter Tryd.func16, Tryd.ntmps16
    go_wp2
    go_ret
    exact ⟨⟨_, H.out, rfl⟩, rfl⟩
  · have hI : ¬ (700 : Int) < (s.size : Int) := by omega
    have hd : decide ((700 : Int) < (s.size : Int)) = false := decide_eq_false hI
    go_enter Tryd.func16, Tryd.ntmps16
    go_wp2
    go_ret
    exact ⟨⟨s, by omega, rfl⟩, rfl⟩

set_option maxRecDepth 100000 in
set_option maxHeartbeats 4000000 in
theorem line_any (s : ByteArray) (hs : s.size ≤ 1000) (a : Int) (w : World) : Calls Tryd.prog 20 #[.string s, .int .i64 a] w fun e w' => e = .returned (.int .i64 (lineL s.data.toList a : Nat)) ∧ w' = w := by
  by_cases h : a < 0
  · have hl : lineL s.data.toList a = 1 := by unfold lineL; rw [if_pos h]
    rw [hl]
    clear hl
    go_enter Tryd.func20, Tryd.ntmps20
    go_wp2
    go_ret
    exact ⟨rfl, rfl⟩
  · obtain ⟨n, rfl⟩ := Int.eq_ofNat_of_zero_le (show 0 ≤ a by omega)
    have hl : lineL s.data.toList (n : Int) = 1 + (s.extract 0 (min n s.size)).data.toList.count 10 := by
      unfold lineL
      rw [if_neg h, ext_take, show ((n : Int)).toNat = n from rfl]
      congr 2
      by_cases h2 : n ≤ s.size
      · rw [Nat.min_eq_left h2]
      · rw [Nat.min_eq_right (by omega), ← len_size, List.take_length, List.take_of_length_le (by rw [len_size]; omega)]
    have hb : (s.extract 0 (min n s.size)).data.toList.count 10 ≤ 1000 := by
      have h1 := line_le s.data.toList (n : Int)
      rw [hl, len_size] at h1
      omega
    rw [hl]
    obtain ⟨y, hy⟩ : ∃ y, y = s.extract 0 (min n s.size) := ⟨_, rfl⟩
    have CC := Lib.hid (count_any y 10 w)
    rw [← hy] at hb ⊢
    obtain ⟨k, hk⟩ : ∃ k, k = y.data.toList.count 10 := ⟨_, rfl⟩
    rw [← hk] at CC hb ⊢
    have hn0 : ¬ (n : Int) < 0 := by omega
    have hd0 : decide ((n : Int) < 0) = false := decide_eq_false hn0
    have HY := Lib.hid hy
    clear hl hy hk h
    go_enter Tryd.func20, Tryd.ntmps20
    go_wp2_with fail
    rw [show (min (n : Int) (s.size : Int)).toNat = min n s.size by omega, ← HY.out]
    refine CC.out.mono ?_
    rintro e w2 ⟨rfl, hw⟩
    obtain rfl : w = w2 := hw.symm
    have hsw : IntKind.i64.wrap (1 + (k : Int)) = 1 + (k : Int) := IntWalk.i64_in _ (by omega)
    clear CC hw
    go_wp2
    go_ret
    exact ⟨by go_num, rfl⟩

end Go.Proofs.YtoombjbpblighaaDoor
