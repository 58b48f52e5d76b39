/-
  Layer 22: what a verb has. Written by an AI agent (wor.py).
-/
import Derived.Laws.EntriesVeiled
import Derived.Test.YtoombjbpblighabDoorWoR
namespace Go.Proofs.YtoombjbpblighabDoor
open Go Go.RowKit Go.Shelf
set_option linter.unusedVariables false
set_option linter.unusedSimpArgs false
set_option maxRecDepth 100000


set_option maxHeartbeats 4000000 in
theorem parts_first (s : ByteArray) (h : s.data.toList = [102, 105, 114, 115, 116]) (w : World) : Calls Tryd.prog 11 #[.string s] w fun e w' => PartsE s.data.toList w e w' := by
  have HK : Hid (kindsN s.data.toList = some [0]) := Lib.hid (by rw [h]; decide)
  have q0 : (s.toList == [115, 116, 101, 112]) = false := by rw [word_beq, h]; decide
  have q1 : (s.toList == [98, 97, 99, 107]) = false := by rw [word_beq, h]; decide
  have q2 : (s.toList == [115, 104, 111, 119]) = false := by rw [word_beq, h]; decide
  have q3 : (s.toList == [108, 105, 115, 116]) = false := by rw [word_beq, h]; decide
  have q4 : (s.toList == [103, 111]) = false := by rw [word_beq, h]; decide
  have q5 : (s.toList == [105, 110, 112, 117, 116]) = false := by rw [word_beq, h]; decide
  have q6 : (s.toList == [108, 105, 110, 101]) = false := by rw [word_beq, h]; decide
  have q7 : (s.toList == [115, 119, 105, 116, 99, 104]) = false := by rw [word_beq, h]; decide
  have q8 : (s.toList == [100, 105, 102, 102]) = false := by rw [word_beq, h]; decide
  have q9 : (s.toList == [102, 105, 114, 115, 116]) = true := by rw [word_beq, h]; decide
  clear h
  go_enter Tryd.func11, Tryd.ntmps11
  go_wp2_with fail
  go_ret2
  refine ⟨_, true, rfl, (((((Keeps.refl (fun _ => False) w).alloc _).alloc _).alloc _).alloc _).alloc _, ?_⟩
  rw [HK.out]
  refine ⟨rfl, Or.inr ⟨_, rfl, by simp, fun i hi => ?_⟩⟩
  have hi3 : i = 0 := by simp at hi; omega
  rcases hi3 with rfl
  · exact ⟨by rw [show sayF (([0] : List Nat).getD 0 0) = 13 from rfl]; exact new_cell _ _ _ _ _ _ (by simp) rfl, by rw [show hearF (([0] : List Nat).getD 0 0) = 15 from rfl]; exact new_cell _ _ _ _ _ _ (by simp) rfl⟩

set_option maxHeartbeats 4000000 in
theorem parts_prune (s : ByteArray) (h : s.data.toList = [112, 114, 117, 110, 101]) (w : World) : Calls Tryd.prog 11 #[.string s] w fun e w' => PartsE s.data.toList w e w' := by
  have HK : Hid (kindsN s.data.toList = some [0]) := Lib.hid (by rw [h]; decide)
  have q0 : (s.toList == [115, 116, 101, 112]) = false := by rw [word_beq, h]; decide
  have q1 : (s.toList == [98, 97, 99, 107]) = false := by rw [word_beq, h]; decide
  have q2 : (s.toList == [115, 104, 111, 119]) = false := by rw [word_beq, h]; decide
  have q3 : (s.toList == [108, 105, 115, 116]) = false := by rw [word_beq, h]; decide
  have q4 : (s.toList == [103, 111]) = false := by rw [word_beq, h]; decide
  have q5 : (s.toList == [105, 110, 112, 117, 116]) = false := by rw [word_beq, h]; decide
  have q6 : (s.toList == [108, 105, 110, 101]) = false := by rw [word_beq, h]; decide
  have q7 : (s.toList == [115, 119, 105, 116, 99, 104]) = false := by rw [word_beq, h]; decide
  have q8 : (s.toList == [100, 105, 102, 102]) = false := by rw [word_beq, h]; decide
  have q9 : (s.toList == [102, 105, 114, 115, 116]) = false := by rw [word_beq, h]; decide
  have q10 : (s.toList == [112, 114, 117, 110, 101]) = true := by rw [word_beq, h]; decide
  clear h
  go_enter Tryd.func11, Tryd.ntmps11
  go_wp2_with fail
  go_ret2
  refine ⟨_, true, rfl, (((((Keeps.refl (fun _ => False) w).alloc _).alloc _).alloc _).alloc _).alloc _, ?_⟩
  rw [HK.out]
  refine ⟨rfl, Or.inr ⟨_, rfl, by simp, fun i hi => ?_⟩⟩
  have hi3 : i = 0 := by simp at hi; omega
  rcases hi3 with rfl
  · exact ⟨by rw [show sayF (([0] : List Nat).getD 0 0) = 13 from rfl]; exact new_cell _ _ _ _ _ _ (by simp) rfl, by rw [show hearF (([0] : List Nat).getD 0 0) = 15 from rfl]; exact new_cell _ _ _ _ _ _ (by simp) rfl⟩

set_option maxHeartbeats 4000000 in
theorem parts_watch (s : ByteArray) (h : s.data.toList = [119, 97, 116, 99, 104]) (w : World) : Calls Tryd.prog 11 #[.string s] w fun e w' => PartsE s.data.toList w e w' := by
  have HK : Hid (kindsN s.data.toList = some [0]) := Lib.hid (by rw [h]; decide)
  have q0 : (s.toList == [115, 116, 101, 112]) = false := by rw [word_beq, h]; decide
  have q1 : (s.toList == [98, 97, 99, 107]) = false := by rw [word_beq, h]; decide
  have q2 : (s.toList == [115, 104, 111, 119]) = false := by rw [word_beq, h]; decide
  have q3 : (s.toList == [108, 105, 115, 116]) = false := by rw [word_beq, h]; decide
  have q4 : (s.toList == [103, 111]) = false := by rw [word_beq, h]; decide
  have q5 : (s.toList == [105, 110, 112, 117, 116]) = false := by rw [word_beq, h]; decide
  have q6 : (s.toList == [108, 105, 110, 101]) = false := by rw [word_beq, h]; decide
  have q7 : (s.toList == [115, 119, 105, 116, 99, 104]) = false := by rw [word_beq, h]; decide
  have q8 : (s.toList == [100, 105, 102, 102]) = false := by rw [word_beq, h]; decide
  have q9 : (s.toList == [102, 105, 114, 115, 116]) = false := by rw [word_beq, h]; decide
  have q10 : (s.toList == [112, 114, 117, 110, 101]) = false := by rw [word_beq, h]; decide
  have q11 : (s.toList == [119, 97, 116, 99, 104]) = true := by rw [word_beq, h]; decide
  clear h
  go_enter Tryd.func11, Tryd.ntmps11
  go_wp2_with fail
  go_ret2
  refine ⟨_, true, rfl, (((((Keeps.refl (fun _ => False) w).alloc _).alloc _).alloc _).alloc _).alloc _, ?_⟩
  rw [HK.out]
  refine ⟨rfl, Or.inr ⟨_, rfl, by simp, fun i hi => ?_⟩⟩
  have hi3 : i = 0 := by simp at hi; omega
  rcases hi3 with rfl
  · exact ⟨by rw [show sayF (([0] : List Nat).getD 0 0) = 13 from rfl]; exact new_cell _ _ _ _ _ _ (by simp) rfl, by rw [show hearF (([0] : List Nat).getD 0 0) = 15 from rfl]; exact new_cell _ _ _ _ _ _ (by simp) rfl⟩

set_option maxHeartbeats 4000000 in
theorem parts_rename (s : ByteArray) (h : s.data.toList = [114, 101, 110, 97, 109, 101]) (w : World) : Calls Tryd.prog 11 #[.string s] w fun e w' => PartsE s.data.toList w e w' := by
  have HK : Hid (kindsN s.data.toList = some [0, 1]) := Lib.hid (by rw [h]; decide)
  have q0 : (s.toList == [115, 116, 101, 112]) = false := by rw [word_beq, h]; decide
  have q1 : (s.toList == [98, 97, 99, 107]) = false := by rw [word_beq, h]; decide
  have q2 : (s.toList == [115, 104, 111, 119]) = false := by rw [word_beq, h]; decide
  have q3 : (s.toList == [108, 105, 115, 116]) = false := by rw [word_beq, h]; decide
  have q4 : (s.toList == [103, 111]) = false := by rw [word_beq, h]; decide
  have q5 : (s.toList == [105, 110, 112, 117, 116]) = false := by rw [word_beq, h]; decide
  have q6 : (s.toList == [108, 105, 110, 101]) = false := by rw [word_beq, h]; decide
  have q7 : (s.toList == [115, 119, 105, 116, 99, 104]) = false := by rw [word_beq, h]; decide
  have q8 : (s.toList == [100, 105, 102, 102]) = false := by rw [word_beq, h]; decide
  have q9 : (s.toList == [102, 105, 114, 115, 116]) = false := by rw [word_beq, h]; decide
  have q10 : (s.toList == [112, 114, 117, 110, 101]) = false := by rw [word_beq, h]; decide
  have q11 : (s.toList == [119, 97, 116, 99, 104]) = false := by rw [word_beq, h]; decide
  have q12 : (s.toList == [114, 101, 110, 97, 109, 101]) = true := by rw [word_beq, h]; decide
  clear h
  go_enter Tryd.func11, Tryd.ntmps11
  go_wp2_with fail
  go_ret2
  refine ⟨_, true, rfl, (((((Keeps.refl (fun _ => False) w).alloc _).alloc _).alloc _).alloc _).alloc _, ?_⟩
  rw [HK.out]
  refine ⟨rfl, Or.inr ⟨_, rfl, by simp, fun i hi => ?_⟩⟩
  have hi3 : i = 0 ∨ i = 1 := by simp at hi; omega
  rcases hi3 with rfl | rfl
  · exact ⟨by rw [show sayF (([0, 1] : List Nat).getD 0 0) = 13 from rfl]; exact new_cell _ _ _ _ _ _ (by simp) rfl, by rw [show hearF (([0, 1] : List Nat).getD 0 0) = 15 from rfl]; exact new_cell _ _ _ _ _ _ (by simp) rfl⟩
  · exact ⟨by rw [show sayF (([0, 1] : List Nat).getD 1 0) = 16 from rfl]; exact new_cell _ _ _ _ _ _ (by simp) rfl, by rw [show hearF (([0, 1] : List Nat).getD 1 0) = 17 from rfl]; exact new_cell _ _ _ _ _ _ (by simp) rfl⟩

set_option maxHeartbeats 4000000 in
theorem parts_rebase (s : ByteArray) (h : s.data.toList = [114, 101, 98, 97, 115, 101]) (w : World) : Calls Tryd.prog 11 #[.string s] w fun e w' => PartsE s.data.toList w e w' := by
  have HK : Hid (kindsN s.data.toList = some [0, 1]) := Lib.hid (by rw [h]; decide)
  have q0 : (s.toList == [115, 116, 101, 112]) = false := by rw [word_beq, h]; decide
  have q1 : (s.toList == [98, 97, 99, 107]) = false := by rw [word_beq, h]; decide
  have q2 : (s.toList == [115, 104, 111, 119]) = false := by rw [word_beq, h]; decide
  have q3 : (s.toList == [108, 105, 115, 116]) = false := by rw [word_beq, h]; decide
  have q4 : (s.toList == [103, 111]) = false := by rw [word_beq, h]; decide
  have q5 : (s.toList == [105, 110, 112, 117, 116]) = false := by rw [word_beq, h]; decide
  have q6 : (s.toList == [108, 105, 110, 101]) = false := by rw [word_beq, h]; decide
  have q7 : (s.toList == [115, 119, 105, 116, 99, 104]) = false := by rw [word_beq, h]; decide
  have q8 : (s.toList == [100, 105, 102, 102]) = false := by rw [word_beq, h]; decide
  have q9 : (s.toList == [102, 105, 114, 115, 116]) = false := by rw [word_beq, h]; decide
  have q10 : (s.toList == [112, 114, 117, 110, 101]) = false := by rw [word_beq, h]; decide
  have q11 : (s.toList == [119, 97, 116, 99, 104]) = false := by rw [word_beq, h]; decide
  have q12 : (s.toList == [114, 101, 110, 97, 109, 101]) = false := by rw [word_beq, h]; decide
  have q13 : (s.toList == [114, 101, 98, 97, 115, 101]) = true := by rw [word_beq, h]; decide
  clear h
  go_enter Tryd.func11, Tryd.ntmps11
  go_wp2_with fail
  go_ret2
  refine ⟨_, true, rfl, (((((Keeps.refl (fun _ => False) w).alloc _).alloc _).alloc _).alloc _).alloc _, ?_⟩
  rw [HK.out]
  refine ⟨rfl, Or.inr ⟨_, rfl, by simp, fun i hi => ?_⟩⟩
  have hi3 : i = 0 ∨ i = 1 := by simp at hi; omega
  rcases hi3 with rfl | rfl
  · exact ⟨by rw [show sayF (([0, 1] : List Nat).getD 0 0) = 13 from rfl]; exact new_cell _ _ _ _ _ _ (by simp) rfl, by rw [show hearF (([0, 1] : List Nat).getD 0 0) = 15 from rfl]; exact new_cell _ _ _ _ _ _ (by simp) rfl⟩
  · exact ⟨by rw [show sayF (([0, 1] : List Nat).getD 1 0) = 16 from rfl]; exact new_cell _ _ _ _ _ _ (by simp) rfl, by rw [show hearF (([0, 1] : List Nat).getD 1 0) = 17 from rfl]; exact new_cell _ _ _ _ _ _ (by simp) rfl⟩

set_option maxHeartbeats 4000000 in
theorem parts_take (s : ByteArray) (h : s.data.toList = [116, 97, 107, 101]) (w : World) : Calls Tryd.prog 11 #[.string s] w fun e w' => PartsE s.data.toList w e w' := by
  have HK : Hid (kindsN s.data.toList = some [0, 2]) := Lib.hid (by rw [h]; decide)
  have q0 : (s.toList == [115, 116, 101, 112]) = false := by rw [word_beq, h]; decide
  have q1 : (s.toList == [98, 97, 99, 107]) = false := by rw [word_beq, h]; decide
  have q2 : (s.toList == [115, 104, 111, 119]) = false := by rw [word_beq, h]; decide
  have q3 : (s.toList == [108, 105, 115, 116]) = false := by rw [word_beq, h]; decide
  have q4 : (s.toList == [103, 111]) = false := by rw [word_beq, h]; decide
  have q5 : (s.toList == [105, 110, 112, 117, 116]) = false := by rw [word_beq, h]; decide
  have q6 : (s.toList == [108, 105, 110, 101]) = false := by rw [word_beq, h]; decide
  have q7 : (s.toList == [115, 119, 105, 116, 99, 104]) = false := by rw [word_beq, h]; decide
  have q8 : (s.toList == [100, 105, 102, 102]) = false := by rw [word_beq, h]; decide
  have q9 : (s.toList == [102, 105, 114, 115, 116]) = false := by rw [word_beq, h]; decide
  have q10 : (s.toList == [112, 114, 117, 110, 101]) = false := by rw [word_beq, h]; decide
  have q11 : (s.toList == [119, 97, 116, 99, 104]) = false := by rw [word_beq, h]; decide
  have q12 : (s.toList == [114, 101, 110, 97, 109, 101]) = false := by rw [word_beq, h]; decide
  have q13 : (s.toList == [114, 101, 98, 97, 115, 101]) = false := by rw [word_beq, h]; decide
  have q14 : (s.toList == [116, 97, 107, 101]) = true := by rw [word_beq, h]; decide
  clear h
  go_enter Tryd.func11, Tryd.ntmps11
  go_wp2_with fail
  go_ret2
  refine ⟨_, true, rfl, (((((Keeps.refl (fun _ => False) w).alloc _).alloc _).alloc _).alloc _).alloc _, ?_⟩
  rw [HK.out]
  refine ⟨rfl, Or.inr ⟨_, rfl, by simp, fun i hi => ?_⟩⟩
  have hi3 : i = 0 ∨ i = 1 := by simp at hi; omega
  rcases hi3 with rfl | rfl
  · exact ⟨by rw [show sayF (([0, 2] : List Nat).getD 0 0) = 13 from rfl]; exact new_cell _ _ _ _ _ _ (by simp) rfl, by rw [show hearF (([0, 2] : List Nat).getD 0 0) = 15 from rfl]; exact new_cell _ _ _ _ _ _ (by simp) rfl⟩
  · exact ⟨by rw [show sayF (([0, 2] : List Nat).getD 1 0) = 18 from rfl]; exact new_cell _ _ _ _ _ _ (by simp) rfl, by rw [show hearF (([0, 2] : List Nat).getD 1 0) = 20 from rfl]; exact new_cell _ _ _ _ _ _ (by simp) rfl⟩

set_option maxHeartbeats 4000000 in
theorem parts_set (s : ByteArray) (h : s.data.toList = [115, 101, 116]) (w : World) : Calls Tryd.prog 11 #[.string s] w fun e w' => PartsE s.data.toList w e w' := by
  have HK : Hid (kindsN s.data.toList = some [0, 3]) := Lib.hid (by rw [h]; decide)
  have q0 : (s.toList == [115, 116, 101, 112]) = false := by rw [word_beq, h]; decide
  have q1 : (s.toList == [98, 97, 99, 107]) = false := by rw [word_beq, h]; decide
  have q2 : (s.toList == [115, 104, 111, 119]) = false := by rw [word_beq, h]; decide
  have q3 : (s.toList == [108, 105, 115, 116]) = false := by rw [word_beq, h]; decide
  have q4 : (s.toList == [103, 111]) = false := by rw [word_beq, h]; decide
  have q5 : (s.toList == [105, 110, 112, 117, 116]) = false := by rw [word_beq, h]; decide
  have q6 : (s.toList == [108, 105, 110, 101]) = false := by rw [word_beq, h]; decide
  have q7 : (s.toList == [115, 119, 105, 116, 99, 104]) = false := by rw [word_beq, h]; decide
  have q8 : (s.toList == [100, 105, 102, 102]) = false := by rw [word_beq, h]; decide
  have q9 : (s.toList == [102, 105, 114, 115, 116]) = false := by rw [word_beq, h]; decide
  have q10 : (s.toList == [112, 114, 117, 110, 101]) = false := by rw [word_beq, h]; decide
  have q11 : (s.toList == [119, 97, 116, 99, 104]) = false := by rw [word_beq, h]; decide
  have q12 : (s.toList == [114, 101, 110, 97, 109, 101]) = false := by rw [word_beq, h]; decide
  have q13 : (s.toList == [114, 101, 98, 97, 115, 101]) = false := by rw [word_beq, h]; decide
  have q14 : (s.toList == [116, 97, 107, 101]) = false := by rw [word_beq, h]; decide
  have q15 : (s.toList == [115, 101, 116]) = true := by rw [word_beq, h]; decide
  clear h
  go_enter Tryd.func11, Tryd.ntmps11
  go_wp2_with fail
  go_ret2
  refine ⟨_, true, rfl, (((((Keeps.refl (fun _ => False) w).alloc _).alloc _).alloc _).alloc _).alloc _, ?_⟩
  rw [HK.out]
  refine ⟨rfl, Or.inr ⟨_, rfl, by simp, fun i hi => ?_⟩⟩
  have hi3 : i = 0 ∨ i = 1 := by simp at hi; omega
  rcases hi3 with rfl | rfl
  · exact ⟨by rw [show sayF (([0, 3] : List Nat).getD 0 0) = 13 from rfl]; exact new_cell _ _ _ _ _ _ (by simp) rfl, by rw [show hearF (([0, 3] : List Nat).getD 0 0) = 15 from rfl]; exact new_cell _ _ _ _ _ _ (by simp) rfl⟩
  · exact ⟨by rw [show sayF (([0, 3] : List Nat).getD 1 0) = 22 from rfl]; exact new_cell _ _ _ _ _ _ (by simp) rfl, by rw [show hearF (([0, 3] : List Nat).getD 1 0) = 25 from rfl]; exact new_cell _ _ _ _ _ _ (by simp) rfl⟩

set_option maxHeartbeats 4000000 in
theorem parts_fork (s : ByteArray) (h : s.data.toList = [102, 111, 114, 107]) (w : World) : Calls Tryd.prog 11 #[.string s] w fun e w' => PartsE s.data.toList w e w' := by
  have HK : Hid (kindsN s.data.toList = some [0, 1, 3]) := Lib.hid (by rw [h]; decide)
  have q0 : (s.toList == [115, 116, 101, 112]) = false := by rw [word_beq, h]; decide
  have q1 : (s.toList == [98, 97, 99, 107]) = false := by rw [word_beq, h]; decide
  have q2 : (s.toList == [115, 104, 111, 119]) = false := by rw [word_beq, h]; decide
  have q3 : (s.toList == [108, 105, 115, 116]) = false := by rw [word_beq, h]; decide
  have q4 : (s.toList == [103, 111]) = false := by rw [word_beq, h]; decide
  have q5 : (s.toList == [105, 110, 112, 117, 116]) = false := by rw [word_beq, h]; decide
  have q6 : (s.toList == [108, 105, 110, 101]) = false := by rw [word_beq, h]; decide
  have q7 : (s.toList == [115, 119, 105, 116, 99, 104]) = false := by rw [word_beq, h]; decide
  have q8 : (s.toList == [100, 105, 102, 102]) = false := by rw [word_beq, h]; decide
  have q9 : (s.toList == [102, 105, 114, 115, 116]) = false := by rw [word_beq, h]; decide
  have q10 : (s.toList == [112, 114, 117, 110, 101]) = false := by rw [word_beq, h]; decide
  have q11 : (s.toList == [119, 97, 116, 99, 104]) = false := by rw [word_beq, h]; decide
  have q12 : (s.toList == [114, 101, 110, 97, 109, 101]) = false := by rw [word_beq, h]; decide
  have q13 : (s.toList == [114, 101, 98, 97, 115, 101]) = false := by rw [word_beq, h]; decide
  have q14 : (s.toList == [116, 97, 107, 101]) = false := by rw [word_beq, h]; decide
  have q15 : (s.toList == [115, 101, 116]) = false := by rw [word_beq, h]; decide
  have q16 : (s.toList == [102, 111, 114, 107]) = true := by rw [word_beq, h]; decide
  clear h
  go_enter Tryd.func11, Tryd.ntmps11
  go_wp2_with fail
  go_ret2
  refine ⟨_, true, rfl, (((((Keeps.refl (fun _ => False) w).alloc _).alloc _).alloc _).alloc _).alloc _, ?_⟩
  rw [HK.out]
  refine ⟨rfl, Or.inr ⟨_, rfl, by simp, fun i hi => ?_⟩⟩
  have hi3 : i = 0 ∨ i = 1 ∨ i = 2 := by simp at hi; omega
  rcases hi3 with rfl | rfl | rfl
  · exact ⟨by rw [show sayF (([0, 1, 3] : List Nat).getD 0 0) = 13 from rfl]; exact new_cell _ _ _ _ _ _ (by simp) rfl, by rw [show hearF (([0, 1, 3] : List Nat).getD 0 0) = 15 from rfl]; exact new_cell _ _ _ _ _ _ (by simp) rfl⟩
  · exact ⟨by rw [show sayF (([0, 1, 3] : List Nat).getD 1 0) = 16 from rfl]; exact new_cell _ _ _ _ _ _ (by simp) rfl, by rw [show hearF (([0, 1, 3] : List Nat).getD 1 0) = 17 from rfl]; exact new_cell _ _ _ _ _ _ (by simp) rfl⟩
  · exact ⟨by rw [show sayF (([0, 1, 3] : List Nat).getD 2 0) = 22 from rfl]; exact new_cell _ _ _ _ _ _ (by simp) rfl, by rw [show hearF (([0, 1, 3] : List Nat).getD 2 0) = 25 from rfl]; exact new_cell _ _ _ _ _ _ (by simp) rfl⟩

set_option maxHeartbeats 4000000 in
theorem parts_none (s : ByteArray) (h : kindsN s.data.toList = none) (w : World) : Calls Tryd.prog 11 #[.string s] w fun e w' => PartsE s.data.toList w e w' := by
  have HK := Lib.hid h
  have q0 : (s.toList == [115, 116, 101, 112]) = false := by rw [word_beq]; exact decide_eq_false (fun e => by rw [e] at h; revert h; decide)
  have q1 : (s.toList == [98, 97, 99, 107]) = false := by rw [word_beq]; exact decide_eq_false (fun e => by rw [e] at h; revert h; decide)
  have q2 : (s.toList == [115, 104, 111, 119]) = false := by rw [word_beq]; exact decide_eq_false (fun e => by rw [e] at h; revert h; decide)
  have q3 : (s.toList == [108, 105, 115, 116]) = false := by rw [word_beq]; exact decide_eq_false (fun e => by rw [e] at h; revert h; decide)
  have q4 : (s.toList == [103, 111]) = false := by rw [word_beq]; exact decide_eq_false (fun e => by rw [e] at h; revert h; decide)
  have q5 : (s.toList == [105, 110, 112, 117, 116]) = false := by rw [word_beq]; exact decide_eq_false (fun e => by rw [e] at h; revert h; decide)
  have q6 : (s.toList == [108, 105, 110, 101]) = false := by rw [word_beq]; exact decide_eq_false (fun e => by rw [e] at h; revert h; decide)
  have q7 : (s.toList == [115, 119, 105, 116, 99, 104]) = false := by rw [word_beq]; exact decide_eq_false (fun e => by rw [e] at h; revert h; decide)
  have q8 : (s.toList == [100, 105, 102, 102]) = false := by rw [word_beq]; exact decide_eq_false (fun e => by rw [e] at h; revert h; decide)
  have q9 : (s.toList == [102, 105, 114, 115, 116]) = false := by rw [word_beq]; exact decide_eq_false (fun e => by rw [e] at h; revert h; decide)
  have q10 : (s.toList == [112, 114, 117, 110, 101]) = false := by rw [word_beq]; exact decide_eq_false (fun e => by rw [e] at h; revert h; decide)
  have q11 : (s.toList == [119, 97, 116, 99, 104]) = false := by rw [word_beq]; exact decide_eq_false (fun e => by rw [e] at h; revert h; decide)
  have q12 : (s.toList == [114, 101, 110, 97, 109, 101]) = false := by rw [word_beq]; exact decide_eq_false (fun e => by rw [e] at h; revert h; decide)
  have q13 : (s.toList == [114, 101, 98, 97, 115, 101]) = false := by rw [word_beq]; exact decide_eq_false (fun e => by rw [e] at h; revert h; decide)
  have q14 : (s.toList == [116, 97, 107, 101]) = false := by rw [word_beq]; exact decide_eq_false (fun e => by rw [e] at h; revert h; decide)
  have q15 : (s.toList == [115, 101, 116]) = false := by rw [word_beq]; exact decide_eq_false (fun e => by rw [e] at h; revert h; decide)
  have q16 : (s.toList == [102, 111, 114, 107]) = false := by rw [word_beq]; exact decide_eq_false (fun e => by rw [e] at h; revert h; decide)
  clear h
  go_enter Tryd.func11, Tryd.ntmps11
  go_wp2_with fail
  go_ret2
  refine ⟨_, false, rfl, ((((Keeps.refl (fun _ => False) w).alloc _).alloc _).alloc _).alloc _, ?_⟩
  rw [HK.out]
theorem parts_any (s : ByteArray) (w : World) : Calls Tryd.prog 11 #[.string s] w fun e w' => PartsE s.data.toList w e w' := by
  cases h : kindsN s.data.toList with
  | none => exact parts_none s h w
  | some ks =>
    rcases kinds_cases h with g | g | g | g | g | g | g | g | g | g | g | g | g | g | g | g | g
    · exact parts_step s g w
    · exact parts_back s g w
    · exact parts_show s g w
    · exact parts_list s g w
    · exact parts_go s g w
    · exact parts_input s g w
    · exact parts_line s g w
    · exact parts_switch s g w
    · exact parts_diff s g w
    · exact parts_first s g w
    · exact parts_prune s g w
    · exact parts_watch s g w
    · exact parts_rename s g w
    · exact parts_rebase s g w
    · exact parts_take s g w
    · exact parts_set s g w
    · exact parts_fork s g w
end Go.Proofs.YtoombjbpblighabDoor
