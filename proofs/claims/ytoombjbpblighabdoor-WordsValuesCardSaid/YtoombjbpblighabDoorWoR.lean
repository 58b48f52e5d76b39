/-
  Layer 22: what a verb has. Written by an AI agent (wor.py).
-/
import Derived.Laws.EntriesVeiled
import Derived.Test.YtoombjbpblighabDoorWoQ
namespace Go.Proofs.YtoombjbpblighabDoor
open Go Go.RowKit Go.Shelf
set_option linter.unusedVariables false
set_option linter.unusedSimpArgs false
set_option maxRecDepth 100000

theorem new_cell (w : World) (c : Array Value) (t : TypeId) (q i : Nat) (v : Value) (hq : q = w.heap.size) (hv : c[i]? = some v) : (w.alloc (.cells c t)).cell? ⟨q, i, none⟩ = some v := by
  subst hq
  simpa using hv
def sayF : Nat → FuncId := fun k => match k with | 0 => 13 | 1 => 16 | 2 => 18 | _ => 22
def hearF : Nat → FuncId := fun k => match k with | 0 => 15 | 1 => 17 | 2 => 20 | _ => 25
/-- What a row of words is. -/
def PartsAt (w : World) (v : Value) (ks : List Nat) : Prop :=
  (ks = [] ∧ v = .slice none 0 0) ∨ ∃ q : Nat, v = .slice (some ⟨q, 0, none⟩) ks.length ks.length ∧ q < w.heap.size ∧ ∀ i, i < ks.length → w.cell? ⟨q, i * 2, none⟩ = some (.func (.func (sayF (ks.getD i 0))) #[] #[]) ∧ w.cell? ⟨q, i * 2 + 1, none⟩ = some (.func (.func (hearF (ks.getD i 0))) #[] #[])
def PartsE (l : List UInt8) (w : World) (e : Ending) (w' : World) : Prop := ∃ v b, e = .returned (.tuple #[v, .bool b]) ∧ Keeps (fun _ => False) w w' ∧ match kindsN l with | some ks => b = true ∧ PartsAt w' v ks | none => b = false

set_option maxHeartbeats 4000000 in
theorem parts_step (s : ByteArray) (h : s.data.toList = [115, 116, 101, 112]) (w : World) : Calls Tryd.prog 11 #[.string s] w fun e w' => PartsE s.data.toList w e w' := by
  have HK : Hid (kindsN s.data.toList = some []) := Lib.hid (by rw [h]; decide)
  have q0 : (s.toList == [115, 116, 101, 112]) = true := by rw [word_beq, h]; decide
  clear h
  go_enter Tryd.func11, Tryd.ntmps11
  go_wp2_with fail
  go_ret2
  refine ⟨_, true, rfl, ((((Keeps.refl (fun _ => False) w).alloc _).alloc _).alloc _).alloc _, ?_⟩
  rw [HK.out]
  exact ⟨rfl, Or.inl ⟨rfl, rfl⟩⟩

set_option maxHeartbeats 4000000 in
theorem parts_back (s : ByteArray) (h : s.data.toList = [98, 97, 99, 107]) (w : World) : Calls Tryd.prog 11 #[.string s] w fun e w' => PartsE s.data.toList w e w' := by
  have HK : Hid (kindsN s.data.toList = some []) := Lib.hid (by rw [h]; decide)
  have q0 : (s.toList == [115, 116, 101, 112]) = false := by rw [word_beq, h]; decide
  have q1 : (s.toList == [98, 97, 99, 107]) = true := by rw [word_beq, h]; decide
  clear h
  go_enter Tryd.func11, Tryd.ntmps11
  go_wp2_with fail
  go_ret2
  refine ⟨_, true, rfl, ((((Keeps.refl (fun _ => False) w).alloc _).alloc _).alloc _).alloc _, ?_⟩
  rw [HK.out]
  exact ⟨rfl, Or.inl ⟨rfl, rfl⟩⟩

set_option maxHeartbeats 4000000 in
theorem parts_show (s : ByteArray) (h : s.data.toList = [115, 104, 111, 119]) (w : World) : Calls Tryd.prog 11 #[.string s] w fun e w' => PartsE s.data.toList w e w' := by
  have HK : Hid (kindsN s.data.toList = some []) := Lib.hid (by rw [h]; decide)
  have q0 : (s.toList == [115, 116, 101, 112]) = false := by rw [word_beq, h]; decide
  have q1 : (s.toList == [98, 97, 99, 107]) = false := by rw [word_beq, h]; decide
  have q2 : (s.toList == [115, 104, 111, 119]) = true := by rw [word_beq, h]; decide
  clear h
  go_enter Tryd.func11, Tryd.ntmps11
  go_wp2_with fail
  go_ret2
  refine ⟨_, true, rfl, ((((Keeps.refl (fun _ => False) w).alloc _).alloc _).alloc _).alloc _, ?_⟩
  rw [HK.out]
  exact ⟨rfl, Or.inl ⟨rfl, rfl⟩⟩

set_option maxHeartbeats 4000000 in
theorem parts_list (s : ByteArray) (h : s.data.toList = [108, 105, 115, 116]) (w : World) : Calls Tryd.prog 11 #[.string s] w fun e w' => PartsE s.data.toList w e w' := by
  have HK : Hid (kindsN s.data.toList = some []) := Lib.hid (by rw [h]; decide)
  have q0 : (s.toList == [115, 116, 101, 112]) = false := by rw [word_beq, h]; decide
  have q1 : (s.toList == [98, 97, 99, 107]) = false := by rw [word_beq, h]; decide
  have q2 : (s.toList == [115, 104, 111, 119]) = false := by rw [word_beq, h]; decide
  have q3 : (s.toList == [108, 105, 115, 116]) = true := by rw [word_beq, h]; decide
  clear h
  go_enter Tryd.func11, Tryd.ntmps11
  go_wp2_with fail
  go_ret2
  refine ⟨_, true, rfl, ((((Keeps.refl (fun _ => False) w).alloc _).alloc _).alloc _).alloc _, ?_⟩
  rw [HK.out]
  exact ⟨rfl, Or.inl ⟨rfl, rfl⟩⟩

set_option maxHeartbeats 4000000 in
theorem parts_go (s : ByteArray) (h : s.data.toList = [103, 111]) (w : World) : Calls Tryd.prog 11 #[.string s] w fun e w' => PartsE s.data.toList w e w' := by
  have HK : Hid (kindsN s.data.toList = some [2]) := Lib.hid (by rw [h]; decide)
  have q0 : (s.toList == [115, 116, 101, 112]) = false := by rw [word_beq, h]; decide
  have q1 : (s.toList == [98, 97, 99, 107]) = false := by rw [word_beq, h]; decide
  have q2 : (s.toList == [115, 104, 111, 119]) = false := by rw [word_beq, h]; decide
  have q3 : (s.toList == [108, 105, 115, 116]) = false := by rw [word_beq, h]; decide
  have q4 : (s.toList == [103, 111]) = true := by rw [word_beq, h]; decide
  clear h
  go_enter Tryd.func11, Tryd.ntmps11
  go_wp2_with fail
  go_ret2
  refine ⟨_, true, rfl, (((((Keeps.refl (fun _ => False) w).alloc _).alloc _).alloc _).alloc _).alloc _, ?_⟩
  rw [HK.out]
  refine ⟨rfl, Or.inr ⟨_, rfl, by simp, fun i hi => ?_⟩⟩
  have hi3 : i = 0 := by simp at hi; omega
  rcases hi3 with rfl
  · exact ⟨by rw [show sayF (([2] : List Nat).getD 0 0) = 18 from rfl]; exact new_cell _ _ _ _ _ _ (by simp) rfl, by rw [show hearF (([2] : List Nat).getD 0 0) = 20 from rfl]; exact new_cell _ _ _ _ _ _ (by simp) rfl⟩

set_option maxHeartbeats 4000000 in
theorem parts_input (s : ByteArray) (h : s.data.toList = [105, 110, 112, 117, 116]) (w : World) : Calls Tryd.prog 11 #[.string s] w fun e w' => PartsE s.data.toList w e w' := by
  have HK : Hid (kindsN s.data.toList = some [2]) := Lib.hid (by rw [h]; decide)
  have q0 : (s.toList == [115, 116, 101, 112]) = false := by rw [word_beq, h]; decide
  have q1 : (s.toList == [98, 97, 99, 107]) = false := by rw [word_beq, h]; decide
  have q2 : (s.toList == [115, 104, 111, 119]) = false := by rw [word_beq, h]; decide
  have q3 : (s.toList == [108, 105, 115, 116]) = false := by rw [word_beq, h]; decide
  have q4 : (s.toList == [103, 111]) = false := by rw [word_beq, h]; decide
  have q5 : (s.toList == [105, 110, 112, 117, 116]) = true := by rw [word_beq, h]; decide
  clear h
  go_enter Tryd.func11, Tryd.ntmps11
  go_wp2_with fail
  go_ret2
  refine ⟨_, true, rfl, (((((Keeps.refl (fun _ => False) w).alloc _).alloc _).alloc _).alloc _).alloc _, ?_⟩
  rw [HK.out]
  refine ⟨rfl, Or.inr ⟨_, rfl, by simp, fun i hi => ?_⟩⟩
  have hi3 : i = 0 := by simp at hi; omega
  rcases hi3 with rfl
  · exact ⟨by rw [show sayF (([2] : List Nat).getD 0 0) = 18 from rfl]; exact new_cell _ _ _ _ _ _ (by simp) rfl, by rw [show hearF (([2] : List Nat).getD 0 0) = 20 from rfl]; exact new_cell _ _ _ _ _ _ (by simp) rfl⟩

set_option maxHeartbeats 4000000 in
theorem parts_line (s : ByteArray) (h : s.data.toList = [108, 105, 110, 101]) (w : World) : Calls Tryd.prog 11 #[.string s] w fun e w' => PartsE s.data.toList w e w' := by
  have HK : Hid (kindsN s.data.toList = some [2]) := Lib.hid (by rw [h]; decide)
  have q0 : (s.toList == [115, 116, 101, 112]) = false := by rw [word_beq, h]; decide
  have q1 : (s.toList == [98, 97, 99, 107]) = false := by rw [word_beq, h]; decide
  have q2 : (s.toList == [115, 104, 111, 119]) = false := by rw [word_beq, h]; decide
  have q3 : (s.toList == [108, 105, 115, 116]) = false := by rw [word_beq, h]; decide
  have q4 : (s.toList == [103, 111]) = false := by rw [word_beq, h]; decide
  have q5 : (s.toList == [105, 110, 112, 117, 116]) = false := by rw [word_beq, h]; decide
  have q6 : (s.toList == [108, 105, 110, 101]) = true := by rw [word_beq, h]; decide
  clear h
  go_enter Tryd.func11, Tryd.ntmps11
  go_wp2_with fail
  go_ret2
  refine ⟨_, true, rfl, (((((Keeps.refl (fun _ => False) w).alloc _).alloc _).alloc _).alloc _).alloc _, ?_⟩
  rw [HK.out]
  refine ⟨rfl, Or.inr ⟨_, rfl, by simp, fun i hi => ?_⟩⟩
  have hi3 : i = 0 := by simp at hi; omega
  rcases hi3 with rfl
  · exact ⟨by rw [show sayF (([2] : List Nat).getD 0 0) = 18 from rfl]; exact new_cell _ _ _ _ _ _ (by simp) rfl, by rw [show hearF (([2] : List Nat).getD 0 0) = 20 from rfl]; exact new_cell _ _ _ _ _ _ (by simp) rfl⟩

set_option maxHeartbeats 4000000 in
theorem parts_switch (s : ByteArray) (h : s.data.toList = [115, 119, 105, 116, 99, 104]) (w : World) : Calls Tryd.prog 11 #[.string s] w fun e w' => PartsE s.data.toList w e w' := by
  have HK : Hid (kindsN s.data.toList = some [0]) := Lib.hid (by rw [h]; decide)
  have q0 : (s.toList == [115, 116, 101, 112]) = false := by rw [word_beq, h]; decide
  have q1 : (s.toList == [98, 97, 99, 107]) = false := by rw [word_beq, h]; decide
  have q2 : (s.toList == [115, 104, 111, 119]) = false := by rw [word_beq, h]; decide
  have q3 : (s.toList == [108, 105, 115, 116]) = false := by rw [word_beq, h]; decide
  have q4 : (s.toList == [103, 111]) = false := by rw [word_beq, h]; decide
  have q5 : (s.toList == [105, 110, 112, 117, 116]) = false := by rw [word_beq, h]; decide
  have q6 : (s.toList == [108, 105, 110, 101]) = false := by rw [word_beq, h]; decide
  have q7 : (s.toList == [115, 119, 105, 116, 99, 104]) = true := by rw [word_beq, h]; decide
  clear h
  go_enter Tryd.func11, Tryd.ntmps11
  go_wp2_with fail
  go_ret2
  refine ⟨_, true, rfl, (((((Keeps.refl (fun _ => False) w).alloc _).alloc _).alloc _).alloc _).alloc _, ?_⟩
  rw [HK.out]
  refine ⟨rfl, Or.inr ⟨_, rfl, by simp, fun i hi => ?_⟩⟩
  have hi3 : i = 0 := by simp at hi; omega
  rcases hi3 with rfl
  · exact ⟨by rw [show sayF (([0] : List Nat).getD 0 0) = 13 from rfl]; exact new_cell _ _ _ _ _ _ (by simp) rfl, by rw [show hearF (([0] : List Nat).getD 0 0) = 15 from rfl]; exact new_cell _ _ _ _ _ _ (by simp) rfl⟩

set_option maxHeartbeats 4000000 in
theorem parts_diff (s : ByteArray) (h : s.data.toList = [100, 105, 102, 102]) (w : World) : Calls Tryd.prog 11 #[.string s] w fun e w' => PartsE s.data.toList w e w' := by
  have HK : Hid (kindsN s.data.toList = some [0]) := Lib.hid (by rw [h]; decide)
  have q0 : (s.toList == [115, 116, 101, 112]) = false := by rw [word_beq, h]; decide
  have q1 : (s.toList == [98, 97, 99, 107]) = false := by rw [word_beq, h]; decide
  have q2 : (s.toList == [115, 104, 111, 119]) = false := by rw [word_beq, h]; decide
  have q3 : (s.toList == [108, 105, 115, 116]) = false := by rw [word_beq, h]; decide
  have q4 : (s.toList == [103, 111]) = false := by rw [word_beq, h]; decide
  have q5 : (s.toList == [105, 110, 112, 117, 116]) = false := by rw [word_beq, h]; decide
  have q6 : (s.toList == [108, 105, 110, 101]) = false := by rw [word_beq, h]; decide
  have q7 : (s.toList == [115, 119, 105, 116, 99, 104]) = false := by rw [word_beq, h]; decide
  have q8 : (s.toList == [100, 105, 102, 102]) = true := by rw [word_beq, h]; decide
  clear h
  go_enter Tryd.func11, Tryd.ntmps11
  go_wp2_with fail
  go_ret2
  refine ⟨_, true, rfl, (((((Keeps.refl (fun _ => False) w).alloc _).alloc _).alloc _).alloc _).alloc _, ?_⟩
  rw [HK.out]
  refine ⟨rfl, Or.inr ⟨_, rfl, by simp, fun i hi => ?_⟩⟩
  have hi3 : i = 0 := by simp at hi; omega
  rcases hi3 with rfl
  · exact ⟨by rw [show sayF (([0] : List Nat).getD 0 0) = 13 from rfl]; exact new_cell _ _ _ _ _ _ (by simp) rfl, by rw [show hearF (([0] : List Nat).getD 0 0) = 15 from rfl]; exact new_cell _ _ _ _ _ _ (by simp) rfl⟩

end Go.Proofs.YtoombjbpblighabDoor
