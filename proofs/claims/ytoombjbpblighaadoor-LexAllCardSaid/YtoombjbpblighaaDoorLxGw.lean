/-
  Layer 1: the contract of Word, which keeps the world as it is. Written by an AI agent.
-/
import Derived.Test.YtoombjbpblighaaDoorLxG
namespace Go.Proofs.YtoombjbpblighaaDoor
open Go.RowKit Go.Shelf
set_option linter.unusedVariables false
set_option linter.unusedSimpArgs false

set_option maxHeartbeats 1000000 in
theorem wordq_at0 (w : World) : Calls Tryd.prog 22 #[.string { data := #[102, 110] }] w fun e w' => e = .returned (.bool true) ∧ w' = w := by
  go_enter Tryd.func22, Tryd.ntmps22
  go_wp2
  go_ret
  exact ⟨rfl, rfl⟩
set_option maxHeartbeats 1000000 in
theorem wordq_at1 (w : World) : Calls Tryd.prog 22 #[.string { data := #[108, 101, 116] }] w fun e w' => e = .returned (.bool true) ∧ w' = w := by
  go_enter Tryd.func22, Tryd.ntmps22
  go_wp2
  go_ret
  exact ⟨rfl, rfl⟩
set_option maxHeartbeats 1000000 in
theorem wordq_at2 (w : World) : Calls Tryd.prog 22 #[.string { data := #[105, 102] }] w fun e w' => e = .returned (.bool true) ∧ w' = w := by
  go_enter Tryd.func22, Tryd.ntmps22
  go_wp2
  go_ret
  exact ⟨rfl, rfl⟩
set_option maxHeartbeats 1000000 in
theorem wordq_at3 (w : World) : Calls Tryd.prog 22 #[.string { data := #[101, 108, 115, 101] }] w fun e w' => e = .returned (.bool true) ∧ w' = w := by
  go_enter Tryd.func22, Tryd.ntmps22
  go_wp2
  go_ret
  exact ⟨rfl, rfl⟩
set_option maxHeartbeats 1000000 in
theorem wordq_at4 (w : World) : Calls Tryd.prog 22 #[.string { data := #[119, 104, 105, 108, 101] }] w fun e w' => e = .returned (.bool true) ∧ w' = w := by
  go_enter Tryd.func22, Tryd.ntmps22
  go_wp2
  go_ret
  exact ⟨rfl, rfl⟩
set_option maxHeartbeats 1000000 in
theorem wordq_at5 (w : World) : Calls Tryd.prog 22 #[.string { data := #[114, 101, 116, 117, 114, 110] }] w fun e w' => e = .returned (.bool true) ∧ w' = w := by
  go_enter Tryd.func22, Tryd.ntmps22
  go_wp2
  go_ret
  exact ⟨rfl, rfl⟩
set_option maxHeartbeats 1000000 in
theorem wordq_at6 (w : World) : Calls Tryd.prog 22 #[.string { data := #[112, 114, 105, 110, 116] }] w fun e w' => e = .returned (.bool true) ∧ w' = w := by
  go_enter Tryd.func22, Tryd.ntmps22
  go_wp2
  go_ret
  exact ⟨rfl, rfl⟩
set_option maxHeartbeats 1000000 in
theorem wordq_at7 (w : World) : Calls Tryd.prog 22 #[.string { data := #[105, 110, 112, 117, 116] }] w fun e w' => e = .returned (.bool true) ∧ w' = w := by
  go_enter Tryd.func22, Tryd.ntmps22
  go_wp2
  go_ret
  exact ⟨rfl, rfl⟩
set_option maxHeartbeats 1000000 in
theorem wordq_at8 (w : World) : Calls Tryd.prog 22 #[.string { data := #[110, 101, 119] }] w fun e w' => e = .returned (.bool true) ∧ w' = w := by
  go_enter Tryd.func22, Tryd.ntmps22
  go_wp2
  go_ret
  exact ⟨rfl, rfl⟩
set_option maxHeartbeats 1000000 in
theorem wordq_at9 (w : World) : Calls Tryd.prog 22 #[.string { data := #[108, 101, 110] }] w fun e w' => e = .returned (.bool true) ∧ w' = w := by
  go_enter Tryd.func22, Tryd.ntmps22
  go_wp2
  go_ret
  exact ⟨rfl, rfl⟩
set_option maxHeartbeats 1000000 in
theorem wordq_at10 (w : World) : Calls Tryd.prog 22 #[.string { data := #[116, 114, 117, 101] }] w fun e w' => e = .returned (.bool true) ∧ w' = w := by
  go_enter Tryd.func22, Tryd.ntmps22
  go_wp2
  go_ret
  exact ⟨rfl, rfl⟩
set_option maxHeartbeats 1000000 in
theorem wordq_at11 (w : World) : Calls Tryd.prog 22 #[.string { data := #[102, 97, 108, 115, 101] }] w fun e w' => e = .returned (.bool true) ∧ w' = w := by
  go_enter Tryd.func22, Tryd.ntmps22
  go_wp2
  go_ret
  exact ⟨rfl, rfl⟩
set_option maxHeartbeats 1000000 in
theorem wordq_at12 (w : World) : Calls Tryd.prog 22 #[.string { data := #[105, 110, 116] }] w fun e w' => e = .returned (.bool true) ∧ w' = w := by
  go_enter Tryd.func22, Tryd.ntmps22
  go_wp2
  go_ret
  exact ⟨rfl, rfl⟩
set_option maxHeartbeats 1000000 in
theorem wordq_at13 (w : World) : Calls Tryd.prog 22 #[.string { data := #[98, 111, 111, 108] }] w fun e w' => e = .returned (.bool true) ∧ w' = w := by
  go_enter Tryd.func22, Tryd.ntmps22
  go_wp2
  go_ret
  exact ⟨rfl, rfl⟩
set_option maxHeartbeats 1000000 in
theorem wordq_at14 (w : World) : Calls Tryd.prog 22 #[.string { data := #[116, 101, 120, 116] }] w fun e w' => e = .returned (.bool true) ∧ w' = w := by
  go_enter Tryd.func22, Tryd.ntmps22
  go_wp2
  go_ret
  exact ⟨rfl, rfl⟩
set_option maxHeartbeats 1000000 in
theorem wordq_at15 (w : World) : Calls Tryd.prog 22 #[.string { data := #[108, 105, 115, 116] }] w fun e w' => e = .returned (.bool true) ∧ w' = w := by
  go_enter Tryd.func22, Tryd.ntmps22
  go_wp2
  go_ret
  exact ⟨rfl, rfl⟩
set_option maxHeartbeats 4000000 in
theorem wordq_no (s : ByteArray) (h : isWord s.data.toList = false) (w : World) : Calls Tryd.prog 22 #[.string s] w fun e w' => e = .returned (.bool false) ∧ w' = w := by
  have h2 : ¬ isWord s.data.toList = true := by rw [h]; decide
  rw [isWord_iff] at h2
  simp only [not_or] at h2
  obtain ⟨q0, q1, q2, q3, q4, q5, q6, q7, q8, q9, q10, q11, q12, q13, q14, q15⟩ := h2
  have r0 : (s.toList == [102, 110]) = false := by rw [word_beq]; exact decide_eq_false q0
  have r1 : (s.toList == [108, 101, 116]) = false := by rw [word_beq]; exact decide_eq_false q1
  have r2 : (s.toList == [105, 102]) = false := by rw [word_beq]; exact decide_eq_false q2
  have r3 : (s.toList == [101, 108, 115, 101]) = false := by rw [word_beq]; exact decide_eq_false q3
  have r4 : (s.toList == [119, 104, 105, 108, 101]) = false := by rw [word_beq]; exact decide_eq_false q4
  have r5 : (s.toList == [114, 101, 116, 117, 114, 110]) = false := by rw [word_beq]; exact decide_eq_false q5
  have r6 : (s.toList == [112, 114, 105, 110, 116]) = false := by rw [word_beq]; exact decide_eq_false q6
  have r7 : (s.toList == [105, 110, 112, 117, 116]) = false := by rw [word_beq]; exact decide_eq_false q7
  have r8 : (s.toList == [110, 101, 119]) = false := by rw [word_beq]; exact decide_eq_false q8
  have r9 : (s.toList == [108, 101, 110]) = false := by rw [word_beq]; exact decide_eq_false q9
  have r10 : (s.toList == [116, 114, 117, 101]) = false := by rw [word_beq]; exact decide_eq_false q10
  have r11 : (s.toList == [102, 97, 108, 115, 101]) = false := by rw [word_beq]; exact decide_eq_false q11
  have r12 : (s.toList == [105, 110, 116]) = false := by rw [word_beq]; exact decide_eq_false q12
  have r13 : (s.toList == [98, 111, 111, 108]) = false := by rw [word_beq]; exact decide_eq_false q13
  have r14 : (s.toList == [116, 101, 120, 116]) = false := by rw [word_beq]; exact decide_eq_false q14
  have r15 : (s.toList == [108, 105, 115, 116]) = false := by rw [word_beq]; exact decide_eq_false q15
  clear h q0 q1 q2 q3 q4 q5 q6 q7 q8 q9 q10 q11 q12 q13 q14 q15
  go_enter Tryd.func22, Tryd.ntmps22
  go_wp2
  go_ret
  exact ⟨rfl, rfl⟩

theorem wordq_any (s : ByteArray) (w : World) : Calls Tryd.prog 22 #[.string s] w fun e w' => e = .returned (.bool (isWord s.data.toList)) ∧ w' = w := by
  cases h : isWord s.data.toList with
  | false => exact wordq_no s h w
  | true =>
    rw [isWord_iff] at h
    rcases h with h | h | h | h | h | h | h | h | h | h | h | h | h | h | h | h
    · rw [show s = { data := #[102, 110] } from bytes_ext h]; exact wordq_at0 w
    · rw [show s = { data := #[108, 101, 116] } from bytes_ext h]; exact wordq_at1 w
    · rw [show s = { data := #[105, 102] } from bytes_ext h]; exact wordq_at2 w
    · rw [show s = { data := #[101, 108, 115, 101] } from bytes_ext h]; exact wordq_at3 w
    · rw [show s = { data := #[119, 104, 105, 108, 101] } from bytes_ext h]; exact wordq_at4 w
    · rw [show s = { data := #[114, 101, 116, 117, 114, 110] } from bytes_ext h]; exact wordq_at5 w
    · rw [show s = { data := #[112, 114, 105, 110, 116] } from bytes_ext h]; exact wordq_at6 w
    · rw [show s = { data := #[105, 110, 112, 117, 116] } from bytes_ext h]; exact wordq_at7 w
    · rw [show s = { data := #[110, 101, 119] } from bytes_ext h]; exact wordq_at8 w
    · rw [show s = { data := #[108, 101, 110] } from bytes_ext h]; exact wordq_at9 w
    · rw [show s = { data := #[116, 114, 117, 101] } from bytes_ext h]; exact wordq_at10 w
    · rw [show s = { data := #[102, 97, 108, 115, 101] } from bytes_ext h]; exact wordq_at11 w
    · rw [show s = { data := #[105, 110, 116] } from bytes_ext h]; exact wordq_at12 w
    · rw [show s = { data := #[98, 111, 111, 108] } from bytes_ext h]; exact wordq_at13 w
    · rw [show s = { data := #[116, 101, 120, 116] } from bytes_ext h]; exact wordq_at14 w
    · rw [show s = { data := #[108, 105, 115, 116] } from bytes_ext h]; exact wordq_at15 w


end Go.Proofs.YtoombjbpblighaaDoor
