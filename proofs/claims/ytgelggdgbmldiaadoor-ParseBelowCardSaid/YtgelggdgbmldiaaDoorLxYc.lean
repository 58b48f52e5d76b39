/-
  Layer 1: the line of a place. Written by an AI agent.
-/
import Derived.Test.YtgelggdgbmldiaaDoorLxOs
import Derived.Test.YtgelggdgbmldiaaDoorLxYb
import Derived.BigQuiet
namespace Go.Proofs.YtgelggdgbmldiaaDoor
open Go.RowKit Go.Shelf
set_option linter.unusedVariables false
set_option linter.unusedSimpArgs false


theorem empty_iff (s : ByteArray) : (s.toList == ([] : List UInt8)) = decide (s.size = 0) := by
  rw [word_beq, Bool.eq_iff_iff]
  simp only [decide_eq_true_eq]
  rw [← len_size, List.length_eq_zero_iff]
theorem ext_one (s : ByteArray) (k : Nat) (h : k < s.size) : (s.extract k (k + 1)).data.toList = [s[k]] := by
  have h2 := at_byte s k h
  obtain ⟨h3, h4⟩ := List.getElem?_eq_some_iff.1 h2
  have : (s.extract k (k + 1)).data.toList = (s.data.toList.drop k).take 1 := by simp
  rw [this, List.drop_eq_getElem_cons h3, List.take_succ_cons, h4]
  rfl

set_option maxRecDepth 100000 in
set_option maxHeartbeats 4000000 in
theorem line_any (s : ByteArray) (hs : s.size ≤ 1000) (a : Int) (w : World) : Calls Tryd.prog 78 #[.string s, .int .i64 a] w fun e w' => e = .returned (.int .i64 (lineL s.data.toList a : Nat)) ∧ w' = w := by
  by_cases h : a < 0
  · have hl : lineL s.data.toList a = 1 := by unfold lineL; rw [if_pos h]
    rw [hl]
    clear hl
    go_enter Tryd.func78, Tryd.ntmps78
    go_wp2
    go_ret
    exact ⟨rfl, rfl⟩
  · obtain ⟨n, rfl⟩ := Int.eq_ofNat_of_zero_le (show 0 ≤ a by omega)
    have hl : lineL s.data.toList (n : Int) = 1 + (s.extract 0 (min n s.size)).data.toList.count 10 := by
      unfold lineL
      rw [if_neg h, ext_take, show ((n : Int)).toNat = n from rfl]
      congr 2
      by_cases h2 : n ≤ s.size
      · rw [Nat.min_eq_left h2]
      · rw [Nat.min_eq_right (by omega), ← len_size, List.take_length, List.take_of_length_le (by rw [len_size]; omega)]
    have hb : (s.extract 0 (min n s.size)).data.toList.count 10 ≤ 1000 := by
      have h1 := line_le s.data.toList (n : Int)
      rw [hl, len_size] at h1
      omega
    rw [hl]
    obtain ⟨y, hy⟩ : ∃ y, y = s.extract 0 (min n s.size) := ⟨_, rfl⟩
    have CC := Lib.hid (count_any y 10 w)
    rw [← hy] at hb ⊢
    obtain ⟨k, hk⟩ : ∃ k, k = y.data.toList.count 10 := ⟨_, rfl⟩
    rw [← hk] at CC hb ⊢
    have hn0 : ¬ (n : Int) < 0 := by omega
    have hd0 : decide ((n : Int) < 0) = false := decide_eq_false hn0
    have HY := Lib.hid hy
    clear hl hy hk h
    go_enter Tryd.func78, Tryd.ntmps78
    go_wp2_with fail
    rw [show (min (n : Int) (s.size : Int)).toNat = min n s.size by omega, ← HY.out]
    refine CC.out.mono ?_
    rintro e w2 ⟨rfl, hw⟩
    obtain rfl : w = w2 := hw.symm
    have hsw : IntKind.i64.wrap (1 + (k : Int)) = 1 + (k : Int) := IntWalk.i64_in _ (by omega)
    clear CC hw
    go_wp2
    go_ret
    exact ⟨by go_num, rfl⟩

end Go.Proofs.YtgelggdgbmldiaaDoor
