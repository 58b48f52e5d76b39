/-
 Layer 4: the program's sign. Written by an AI agent.
-/
import Derived.Test.YtbhpnioggpgbhaaGreatDoorMcau
namespace Go.Proofs.YtbhpnioggpgbhaaGreatDoor
open Go Go.RowKit Go.Shelf
set_option linter.unusedVariables false
set_option linter.unusedSimpArgs false
/-- What sign tells. -/
def signP (s : List UInt8) (a b : Int) : Int × Bool :=
 if s = [124, 124] ∨ s = [38, 38] then (2, (a == 2) && (b == 2))
 else if s = [60] ∨ s = [60, 61] then (2, (a == 1) && (b == 1))
 else if s = [61, 61] ∨ s = [33, 61] then (2, ((a == 1) && (b == 1)) || ((a == 2) && (b == 2)) || ((a == 3) && (b == 3)))
 else if s = [43] then (if (a == 3) && (b == 3) then (3, true) else (1, (a == 1) && (b == 1)))
 else (1, (a == 1) && (b == 1))
theorem signP_T (s : List UInt8) (a b : Int) : signT s a b = if (signP s a b).2 then some (signP s a b).1 else none := by
 unfold signT signP
 by_cases h1 : s = [124, 124] ∨ s = [38, 38]
 ·rw [if_pos h1, if_pos h1]; by_cases h : a = 2 ∧ b = 2 <;> simp [h]
 rw [if_neg h1, if_neg h1]
 by_cases h2 : s = [60] ∨ s = [60, 61]
 ·rw [if_pos h2, if_pos h2]; by_cases h : a = 1 ∧ b = 1 <;> simp [h]
 rw [if_neg h2, if_neg h2]
 by_cases h3 : s = [61, 61] ∨ s = [33, 61]
 ·rw [if_pos h3, if_pos h3]
  by_cases h : a = b ∧ (a = 1 ∨ a = 2 ∨ a = 3)
  ·rw [if_pos h, if_pos]
   simp only [Bool.or_eq_true, Bool.and_eq_true, beq_iff_eq]
   omega
  ·rw [if_neg h, if_neg]
   simp only [Bool.or_eq_true, Bool.and_eq_true, beq_iff_eq]
   omega
 rw [if_neg h3, if_neg h3]
 by_cases h4 : s = [43]
 ·rw [if_pos h4]
  by_cases h : a = 3 ∧ b = 3
  ·have e : (a == 3 && b == 3) = true := by simp [h]
   rw [if_pos ⟨h4, h⟩, if_pos e]; rfl
  ·have e : ¬ (a == 3 && b == 3) = true := by simp only [Bool.and_eq_true, beq_iff_eq]; exact h
   rw [if_neg (fun hh => h hh.2), if_neg e]
   by_cases h5 : a = 1 ∧ b = 1
   ·simp [h5]
   ·simp [h5]
 ·rw [if_neg h4, if_neg (fun hh => h4 hh.1)]
  by_cases h5 : a = 1 ∧ b = 1 <;> simp [h5]
set_option maxRecDepth 100000 in
set_option maxHeartbeats 16000000 in
theorem psign_oo (a b : Int) (w : World) : Calls Tryz.prog 129 #[.string { data := #[124, 124] }, .int .i64 a, .int .i64 b] w fun e w' => e = .returned (.tuple #[.int .i64 (signP [124, 124] a b).1, .bool (signP [124, 124] a b).2]) ∧ Keeps (fun _ => False) w w' := by
 obtain ⟨w1, hw1⟩ : ∃ w1, w1 = (w.alloc (.cells #[.int .i64 a] 3)).alloc (.cells #[.int .i64 b] 3) := ⟨_, rfl⟩
 have ka : Keeps (fun _ => False) w w1 := by rw [hw1]; exact (Keeps.one w _).trans (Keeps.one _ _) (fun _ _ h => h)
 have h4 : w1.cell? ⟨w.heap.size, 0, none⟩ = some (.int .i64 a) := by
  rw [hw1]
  exact ((Keeps.one (w.alloc (.cells #[.int .i64 a] 3)) (.cells #[.int .i64 b] 3)).cell (by simp) (fun h => h)).trans (by rw [World.cell?_alloc_mark]; rfl)
 have h5 : w1.cell? ⟨w.heap.size + 1, 0, none⟩ = some (.int .i64 b) := by
  rw [hw1]
  rw [show w.heap.size + 1 = (w.alloc (.cells #[.int .i64 a] 3)).heap.size from by simp, World.cell?_alloc_mark]; rfl
 have K1 := Lib.hid ka
 have H45 := Lib.hid (And.intro h4 h5)
 have BC : Hid (∀ t, Calls Tryz.prog 141 #[.int .i64 t, .pointer (some ⟨w.heap.size, 0, none⟩), .pointer (some ⟨w.heap.size + 1, 0, none⟩)] w1 fun e w' => e = .returned (.bool ((a == t) && (b == t))) ∧ w' = w1) := Lib.hid (fun t => pboth_any a b t _ _ w1 H45.out.1 H45.out.2)
 clear ka h4 h5 H45
 go_enter Tryz.func129, Tryz.ntmps129
 go_upto_region 2 with fail
 rw [← hw1]
 generalize w.heap.size + 1 = P5 at BC ⊢
 generalize w.heap.size = P4 at BC ⊢
 clear hw1
 have B1 := Lib.hid (BC.out 2)
 obtain ⟨z1, hz1⟩ : ∃ z, z = ((a == 2) && (b == 2)) := ⟨_, rfl⟩
 rw [← hz1] at B1
 have HM : Hid ((signP [124, 124] a b).2 = z1) := Lib.hid (by rw [hz1]; rfl)
 have HM1 : Hid ((signP [124, 124] a b).1 = 2) := Lib.hid rfl
 clear hz1 BC
 go_wp2_with fail
 refine B1.out.mono ?_
 rintro r w2 ⟨rfl, rfl⟩
 clear B1
 go_wp2_with fail
 go_ret2
 exact ⟨by (rw [HM.out, HM1.out]; first | done | rfl), K1.out⟩
set_option maxRecDepth 100000 in
set_option maxHeartbeats 16000000 in
theorem psign_aa (a b : Int) (w : World) : Calls Tryz.prog 129 #[.string { data := #[38, 38] }, .int .i64 a, .int .i64 b] w fun e w' => e = .returned (.tuple #[.int .i64 (signP [38, 38] a b).1, .bool (signP [38, 38] a b).2]) ∧ Keeps (fun _ => False) w w' := by
 obtain ⟨w1, hw1⟩ : ∃ w1, w1 = (w.alloc (.cells #[.int .i64 a] 3)).alloc (.cells #[.int .i64 b] 3) := ⟨_, rfl⟩
 have ka : Keeps (fun _ => False) w w1 := by rw [hw1]; exact (Keeps.one w _).trans (Keeps.one _ _) (fun _ _ h => h)
 have h4 : w1.cell? ⟨w.heap.size, 0, none⟩ = some (.int .i64 a) := by
  rw [hw1]
  exact ((Keeps.one (w.alloc (.cells #[.int .i64 a] 3)) (.cells #[.int .i64 b] 3)).cell (by simp) (fun h => h)).trans (by rw [World.cell?_alloc_mark]; rfl)
 have h5 : w1.cell? ⟨w.heap.size + 1, 0, none⟩ = some (.int .i64 b) := by
  rw [hw1]
  rw [show w.heap.size + 1 = (w.alloc (.cells #[.int .i64 a] 3)).heap.size from by simp, World.cell?_alloc_mark]; rfl
 have K1 := Lib.hid ka
 have H45 := Lib.hid (And.intro h4 h5)
 have BC : Hid (∀ t, Calls Tryz.prog 141 #[.int .i64 t, .pointer (some ⟨w.heap.size, 0, none⟩), .pointer (some ⟨w.heap.size + 1, 0, none⟩)] w1 fun e w' => e = .returned (.bool ((a == t) && (b == t))) ∧ w' = w1) := Lib.hid (fun t => pboth_any a b t _ _ w1 H45.out.1 H45.out.2)
 clear ka h4 h5 H45
 go_enter Tryz.func129, Tryz.ntmps129
 go_upto_region 2 with fail
 rw [← hw1]
 generalize w.heap.size + 1 = P5 at BC ⊢
 generalize w.heap.size = P4 at BC ⊢
 clear hw1
 have B1 := Lib.hid (BC.out 2)
 obtain ⟨z1, hz1⟩ : ∃ z, z = ((a == 2) && (b == 2)) := ⟨_, rfl⟩
 rw [← hz1] at B1
 have HM : Hid ((signP [38, 38] a b).2 = z1) := Lib.hid (by rw [hz1]; rfl)
 have HM1 : Hid ((signP [38, 38] a b).1 = 2) := Lib.hid rfl
 clear hz1 BC
 go_wp2_with fail
 refine B1.out.mono ?_
 rintro r w2 ⟨rfl, rfl⟩
 clear B1
 go_wp2_with fail
 go_ret2
 exact ⟨by (rw [HM.out, HM1.out]; first | done | rfl), K1.out⟩
set_option maxRecDepth 100000 in
set_option maxHeartbeats 16000000 in
theorem psign_lt (a b : Int) (w : World) : Calls Tryz.prog 129 #[.string { data := #[60] }, .int .i64 a, .int .i64 b] w fun e w' => e = .returned (.tuple #[.int .i64 (signP [60] a b).1, .bool (signP [60] a b).2]) ∧ Keeps (fun _ => False) w w' := by
 obtain ⟨w1, hw1⟩ : ∃ w1, w1 = (w.alloc (.cells #[.int .i64 a] 3)).alloc (.cells #[.int .i64 b] 3) := ⟨_, rfl⟩
 have ka : Keeps (fun _ => False) w w1 := by rw [hw1]; exact (Keeps.one w _).trans (Keeps.one _ _) (fun _ _ h => h)
 have h4 : w1.cell? ⟨w.heap.size, 0, none⟩ = some (.int .i64 a) := by
  rw [hw1]
  exact ((Keeps.one (w.alloc (.cells #[.int .i64 a] 3)) (.cells #[.int .i64 b] 3)).cell (by simp) (fun h => h)).trans (by rw [World.cell?_alloc_mark]; rfl)
 have h5 : w1.cell? ⟨w.heap.size + 1, 0, none⟩ = some (.int .i64 b) := by
  rw [hw1]
  rw [show w.heap.size + 1 = (w.alloc (.cells #[.int .i64 a] 3)).heap.size from by simp, World.cell?_alloc_mark]; rfl
 have K1 := Lib.hid ka
 have H45 := Lib.hid (And.intro h4 h5)
 have BC : Hid (∀ t, Calls Tryz.prog 141 #[.int .i64 t, .pointer (some ⟨w.heap.size, 0, none⟩), .pointer (some ⟨w.heap.size + 1, 0, none⟩)] w1 fun e w' => e = .returned (.bool ((a == t) && (b == t))) ∧ w' = w1) := Lib.hid (fun t => pboth_any a b t _ _ w1 H45.out.1 H45.out.2)
 clear ka h4 h5 H45
 go_enter Tryz.func129, Tryz.ntmps129
 go_upto_region 2 with fail
 rw [← hw1]
 generalize w.heap.size + 1 = P5 at BC ⊢
 generalize w.heap.size = P4 at BC ⊢
 clear hw1
 have B1 := Lib.hid (BC.out 1)
 obtain ⟨z1, hz1⟩ : ∃ z, z = ((a == 1) && (b == 1)) := ⟨_, rfl⟩
 rw [← hz1] at B1
 have HM : Hid ((signP [60] a b).2 = z1) := Lib.hid (by rw [hz1]; rfl)
 have HM1 : Hid ((signP [60] a b).1 = 2) := Lib.hid rfl
 clear hz1 BC
 go_wp2_with fail
 refine B1.out.mono ?_
 rintro r w2 ⟨rfl, rfl⟩
 clear B1
 go_wp2_with fail
 go_ret2
 exact ⟨by (rw [HM.out, HM1.out]; first | done | rfl), K1.out⟩
set_option maxRecDepth 100000 in
set_option maxHeartbeats 16000000 in
theorem psign_le (a b : Int) (w : World) : Calls Tryz.prog 129 #[.string { data := #[60, 61] }, .int .i64 a, .int .i64 b] w fun e w' => e = .returned (.tuple #[.int .i64 (signP [60, 61] a b).1, .bool (signP [60, 61] a b).2]) ∧ Keeps (fun _ => False) w w' := by
 obtain ⟨w1, hw1⟩ : ∃ w1, w1 = (w.alloc (.cells #[.int .i64 a] 3)).alloc (.cells #[.int .i64 b] 3) := ⟨_, rfl⟩
 have ka : Keeps (fun _ => False) w w1 := by rw [hw1]; exact (Keeps.one w _).trans (Keeps.one _ _) (fun _ _ h => h)
 have h4 : w1.cell? ⟨w.heap.size, 0, none⟩ = some (.int .i64 a) := by
  rw [hw1]
  exact ((Keeps.one (w.alloc (.cells #[.int .i64 a] 3)) (.cells #[.int .i64 b] 3)).cell (by simp) (fun h => h)).trans (by rw [World.cell?_alloc_mark]; rfl)
 have h5 : w1.cell? ⟨w.heap.size + 1, 0, none⟩ = some (.int .i64 b) := by
  rw [hw1]
  rw [show w.heap.size + 1 = (w.alloc (.cells #[.int .i64 a] 3)).heap.size from by simp, World.cell?_alloc_mark]; rfl
 have K1 := Lib.hid ka
 have H45 := Lib.hid (And.intro h4 h5)
 have BC : Hid (∀ t, Calls Tryz.prog 141 #[.int .i64 t, .pointer (some ⟨w.heap.size, 0, none⟩), .pointer (some ⟨w.heap.size + 1, 0, none⟩)] w1 fun e w' => e = .returned (.bool ((a == t) && (b == t))) ∧ w' = w1) := Lib.hid (fun t => pboth_any a b t _ _ w1 H45.out.1 H45.out.2)
 clear ka h4 h5 H45
 go_enter Tryz.func129, Tryz.ntmps129
 go_upto_region 2 with fail
 rw [← hw1]
 generalize w.heap.size + 1 = P5 at BC ⊢
 generalize w.heap.size = P4 at BC ⊢
 clear hw1
 have B1 := Lib.hid (BC.out 1)
 obtain ⟨z1, hz1⟩ : ∃ z, z = ((a == 1) && (b == 1)) := ⟨_, rfl⟩
 rw [← hz1] at B1
 have HM : Hid ((signP [60, 61] a b).2 = z1) := Lib.hid (by rw [hz1]; rfl)
 have HM1 : Hid ((signP [60, 61] a b).1 = 2) := Lib.hid rfl
 clear hz1 BC
 go_wp2_with fail
 refine B1.out.mono ?_
 rintro r w2 ⟨rfl, rfl⟩
 clear B1
 go_wp2_with fail
 go_ret2
 exact ⟨by (rw [HM.out, HM1.out]; first | done | rfl), K1.out⟩
set_option maxRecDepth 100000 in
set_option maxHeartbeats 16000000 in
theorem psign_eq (a b : Int) (w : World) : Calls Tryz.prog 129 #[.string { data := #[61, 61] }, .int .i64 a, .int .i64 b] w fun e w' => e = .returned (.tuple #[.int .i64 (signP [61, 61] a b).1, .bool (signP [61, 61] a b).2]) ∧ Keeps (fun _ => False) w w' := by
 obtain ⟨w1, hw1⟩ : ∃ w1, w1 = (w.alloc (.cells #[.int .i64 a] 3)).alloc (.cells #[.int .i64 b] 3) := ⟨_, rfl⟩
 have ka : Keeps (fun _ => False) w w1 := by rw [hw1]; exact (Keeps.one w _).trans (Keeps.one _ _) (fun _ _ h => h)
 have h4 : w1.cell? ⟨w.heap.size, 0, none⟩ = some (.int .i64 a) := by
  rw [hw1]
  exact ((Keeps.one (w.alloc (.cells #[.int .i64 a] 3)) (.cells #[.int .i64 b] 3)).cell (by simp) (fun h => h)).trans (by rw [World.cell?_alloc_mark]; rfl)
 have h5 : w1.cell? ⟨w.heap.size + 1, 0, none⟩ = some (.int .i64 b) := by
  rw [hw1]
  rw [show w.heap.size + 1 = (w.alloc (.cells #[.int .i64 a] 3)).heap.size from by simp, World.cell?_alloc_mark]; rfl
 have K1 := Lib.hid ka
 have H45 := Lib.hid (And.intro h4 h5)
 have BC : Hid (∀ t, Calls Tryz.prog 141 #[.int .i64 t, .pointer (some ⟨w.heap.size, 0, none⟩), .pointer (some ⟨w.heap.size + 1, 0, none⟩)] w1 fun e w' => e = .returned (.bool ((a == t) && (b == t))) ∧ w' = w1) := Lib.hid (fun t => pboth_any a b t _ _ w1 H45.out.1 H45.out.2)
 clear ka h4 h5 H45
 go_enter Tryz.func129, Tryz.ntmps129
 go_upto_region 2 with fail
 rw [← hw1]
 generalize w.heap.size + 1 = P5 at BC ⊢
 generalize w.heap.size = P4 at BC ⊢
 clear hw1
 have B1 := Lib.hid (BC.out 1)
 obtain ⟨z1, hz1⟩ : ∃ z, z = ((a == 1) && (b == 1)) := ⟨_, rfl⟩
 rw [← hz1] at B1
 have B2 := Lib.hid (BC.out 2)
 obtain ⟨z2, hz2⟩ : ∃ z, z = ((a == 2) && (b == 2)) := ⟨_, rfl⟩
 rw [← hz2] at B2
 have B3 := Lib.hid (BC.out 3)
 obtain ⟨z3, hz3⟩ : ∃ z, z = ((a == 3) && (b == 3)) := ⟨_, rfl⟩
 rw [← hz3] at B3
 have HM : Hid ((signP [61, 61] a b).2 = (z1 || z2 || z3)) := Lib.hid (by rw [hz1, hz2, hz3]; rfl)
 have HM1 : Hid ((signP [61, 61] a b).1 = 2) := Lib.hid rfl
 clear hz1 hz2 hz3 BC
 go_wp2_with fail
 refine B1.out.mono ?_
 rintro r w2 ⟨rfl, rfl⟩
 clear B1
 cases z1 with
 | true =>
  go_wp2_with fail
  go_ret2
  exact ⟨by (rw [HM.out, HM1.out]; first | done | rfl), K1.out⟩
 | false =>
  go_wp2_with fail
  refine B2.out.mono ?_
  rintro r w3 ⟨rfl, rfl⟩
  clear B2
  cases z2 with
  | true =>
   go_wp2_with fail
   go_ret2
   exact ⟨by (rw [HM.out, HM1.out]; first | done | rfl), K1.out⟩
  | false =>
   go_wp2_with fail
   refine B3.out.mono ?_
   rintro r w4 ⟨rfl, rfl⟩
   clear B3
   go_wp2_with fail
   go_ret2
   exact ⟨by (rw [HM.out, HM1.out]; first | done | rfl), K1.out⟩
set_option maxRecDepth 100000 in
set_option maxHeartbeats 16000000 in
theorem psign_ne (a b : Int) (w : World) : Calls Tryz.prog 129 #[.string { data := #[33, 61] }, .int .i64 a, .int .i64 b] w fun e w' => e = .returned (.tuple #[.int .i64 (signP [33, 61] a b).1, .bool (signP [33, 61] a b).2]) ∧ Keeps (fun _ => False) w w' := by
 obtain ⟨w1, hw1⟩ : ∃ w1, w1 = (w.alloc (.cells #[.int .i64 a] 3)).alloc (.cells #[.int .i64 b] 3) := ⟨_, rfl⟩
 have ka : Keeps (fun _ => False) w w1 := by rw [hw1]; exact (Keeps.one w _).trans (Keeps.one _ _) (fun _ _ h => h)
 have h4 : w1.cell? ⟨w.heap.size, 0, none⟩ = some (.int .i64 a) := by
  rw [hw1]
  exact ((Keeps.one (w.alloc (.cells #[.int .i64 a] 3)) (.cells #[.int .i64 b] 3)).cell (by simp) (fun h => h)).trans (by rw [World.cell?_alloc_mark]; rfl)
 have h5 : w1.cell? ⟨w.heap.size + 1, 0, none⟩ = some (.int .i64 b) := by
  rw [hw1]
  rw [show w.heap.size + 1 = (w.alloc (.cells #[.int .i64 a] 3)).heap.size from by simp, World.cell?_alloc_mark]; rfl
 have K1 := Lib.hid ka
 have H45 := Lib.hid (And.intro h4 h5)
 have BC : Hid (∀ t, Calls Tryz.prog 141 #[.int .i64 t, .pointer (some ⟨w.heap.size, 0, none⟩), .pointer (some ⟨w.heap.size + 1, 0, none⟩)] w1 fun e w' => e = .returned (.bool ((a == t) && (b == t))) ∧ w' = w1) := Lib.hid (fun t => pboth_any a b t _ _ w1 H45.out.1 H45.out.2)
 clear ka h4 h5 H45
 go_enter Tryz.func129, Tryz.ntmps129
 go_upto_region 2 with fail
 rw [← hw1]
 generalize w.heap.size + 1 = P5 at BC ⊢
 generalize w.heap.size = P4 at BC ⊢
 clear hw1
 have B1 := Lib.hid (BC.out 1)
 obtain ⟨z1, hz1⟩ : ∃ z, z = ((a == 1) && (b == 1)) := ⟨_, rfl⟩
 rw [← hz1] at B1
 have B2 := Lib.hid (BC.out 2)
 obtain ⟨z2, hz2⟩ : ∃ z, z = ((a == 2) && (b == 2)) := ⟨_, rfl⟩
 rw [← hz2] at B2
 have B3 := Lib.hid (BC.out 3)
 obtain ⟨z3, hz3⟩ : ∃ z, z = ((a == 3) && (b == 3)) := ⟨_, rfl⟩
 rw [← hz3] at B3
 have HM : Hid ((signP [33, 61] a b).2 = (z1 || z2 || z3)) := Lib.hid (by rw [hz1, hz2, hz3]; rfl)
 have HM1 : Hid ((signP [33, 61] a b).1 = 2) := Lib.hid rfl
 clear hz1 hz2 hz3 BC
 go_wp2_with fail
 refine B1.out.mono ?_
 rintro r w2 ⟨rfl, rfl⟩
 clear B1
 cases z1 with
 | true =>
  go_wp2_with fail
  go_ret2
  exact ⟨by (rw [HM.out, HM1.out]; first | done | rfl), K1.out⟩
 | false =>
  go_wp2_with fail
  refine B2.out.mono ?_
  rintro r w3 ⟨rfl, rfl⟩
  clear B2
  cases z2 with
  | true =>
   go_wp2_with fail
   go_ret2
   exact ⟨by (rw [HM.out, HM1.out]; first | done | rfl), K1.out⟩
  | false =>
   go_wp2_with fail
   refine B3.out.mono ?_
   rintro r w4 ⟨rfl, rfl⟩
   clear B3
   go_wp2_with fail
   go_ret2
   exact ⟨by (rw [HM.out, HM1.out]; first | done | rfl), K1.out⟩
set_option maxRecDepth 100000 in
set_option maxHeartbeats 16000000 in
theorem psign_pl (a b : Int) (w : World) : Calls Tryz.prog 129 #[.string { data := #[43] }, .int .i64 a, .int .i64 b] w fun e w' => e = .returned (.tuple #[.int .i64 (signP [43] a b).1, .bool (signP [43] a b).2]) ∧ Keeps (fun _ => False) w w' := by
 obtain ⟨w1, hw1⟩ : ∃ w1, w1 = (w.alloc (.cells #[.int .i64 a] 3)).alloc (.cells #[.int .i64 b] 3) := ⟨_, rfl⟩
 have ka : Keeps (fun _ => False) w w1 := by rw [hw1]; exact (Keeps.one w _).trans (Keeps.one _ _) (fun _ _ h => h)
 have h4 : w1.cell? ⟨w.heap.size, 0, none⟩ = some (.int .i64 a) := by
  rw [hw1]
  exact ((Keeps.one (w.alloc (.cells #[.int .i64 a] 3)) (.cells #[.int .i64 b] 3)).cell (by simp) (fun h => h)).trans (by rw [World.cell?_alloc_mark]; rfl)
 have h5 : w1.cell? ⟨w.heap.size + 1, 0, none⟩ = some (.int .i64 b) := by
  rw [hw1]
  rw [show w.heap.size + 1 = (w.alloc (.cells #[.int .i64 a] 3)).heap.size from by simp, World.cell?_alloc_mark]; rfl
 have K1 := Lib.hid ka
 have H45 := Lib.hid (And.intro h4 h5)
 have BC : Hid (∀ t, Calls Tryz.prog 141 #[.int .i64 t, .pointer (some ⟨w.heap.size, 0, none⟩), .pointer (some ⟨w.heap.size + 1, 0, none⟩)] w1 fun e w' => e = .returned (.bool ((a == t) && (b == t))) ∧ w' = w1) := Lib.hid (fun t => pboth_any a b t _ _ w1 H45.out.1 H45.out.2)
 clear ka h4 h5 H45
 go_enter Tryz.func129, Tryz.ntmps129
 go_upto_region 2 with fail
 rw [← hw1]
 generalize w.heap.size + 1 = P5 at BC ⊢
 generalize w.heap.size = P4 at BC ⊢
 clear hw1
 have B3 := Lib.hid (BC.out 3)
 obtain ⟨z3, hz3⟩ : ∃ z, z = ((a == 3) && (b == 3)) := ⟨_, rfl⟩
 rw [← hz3] at B3
 have B1 := Lib.hid (BC.out 1)
 obtain ⟨z1, hz1⟩ : ∃ z, z = ((a == 1) && (b == 1)) := ⟨_, rfl⟩
 rw [← hz1] at B1
 have HM : Hid (signP [43] a b = if z3 then (3, true) else (1, z1)) := Lib.hid (by rw [hz1, hz3]; rfl)
 clear hz1 hz3 BC
 go_wp2_with fail
 refine B3.out.mono ?_
 rintro r w2 ⟨rfl, rfl⟩
 clear B3
 cases z3 with
 | true =>
  go_wp2_with fail
  go_ret2
  exact ⟨by (rw [HM.out]; first | done | rfl), K1.out⟩
 | false =>
  go_wp2_with fail
  refine B1.out.mono ?_
  rintro r w3 ⟨rfl, rfl⟩
  clear B1
  go_wp2_with fail
  go_ret2
  exact ⟨by (rw [HM.out]; first | done | rfl), K1.out⟩
set_option maxRecDepth 100000 in
set_option maxHeartbeats 16000000 in
theorem psign_mi (a b : Int) (w : World) : Calls Tryz.prog 129 #[.string { data := #[45] }, .int .i64 a, .int .i64 b] w fun e w' => e = .returned (.tuple #[.int .i64 (signP [45] a b).1, .bool (signP [45] a b).2]) ∧ Keeps (fun _ => False) w w' := by
 obtain ⟨w1, hw1⟩ : ∃ w1, w1 = (w.alloc (.cells #[.int .i64 a] 3)).alloc (.cells #[.int .i64 b] 3) := ⟨_, rfl⟩
 have ka : Keeps (fun _ => False) w w1 := by rw [hw1]; exact (Keeps.one w _).trans (Keeps.one _ _) (fun _ _ h => h)
 have h4 : w1.cell? ⟨w.heap.size, 0, none⟩ = some (.int .i64 a) := by
  rw [hw1]
  exact ((Keeps.one (w.alloc (.cells #[.int .i64 a] 3)) (.cells #[.int .i64 b] 3)).cell (by simp) (fun h => h)).trans (by rw [World.cell?_alloc_mark]; rfl)
 have h5 : w1.cell? ⟨w.heap.size + 1, 0, none⟩ = some (.int .i64 b) := by
  rw [hw1]
  rw [show w.heap.size + 1 = (w.alloc (.cells #[.int .i64 a] 3)).heap.size from by simp, World.cell?_alloc_mark]; rfl
 have K1 := Lib.hid ka
 have H45 := Lib.hid (And.intro h4 h5)
 have BC : Hid (∀ t, Calls Tryz.prog 141 #[.int .i64 t, .pointer (some ⟨w.heap.size, 0, none⟩), .pointer (some ⟨w.heap.size + 1, 0, none⟩)] w1 fun e w' => e = .returned (.bool ((a == t) && (b == t))) ∧ w' = w1) := Lib.hid (fun t => pboth_any a b t _ _ w1 H45.out.1 H45.out.2)
 clear ka h4 h5 H45
 go_enter Tryz.func129, Tryz.ntmps129
 go_upto_region 2 with fail
 rw [← hw1]
 generalize w.heap.size + 1 = P5 at BC ⊢
 generalize w.heap.size = P4 at BC ⊢
 clear hw1
 have B1 := Lib.hid (BC.out 1)
 obtain ⟨z1, hz1⟩ : ∃ z, z = ((a == 1) && (b == 1)) := ⟨_, rfl⟩
 rw [← hz1] at B1
 have HM : Hid ((signP [45] a b).2 = z1) := Lib.hid (by rw [hz1]; rfl)
 have HM1 : Hid ((signP [45] a b).1 = 1) := Lib.hid rfl
 clear hz1 BC
 go_wp2_with fail
 refine B1.out.mono ?_
 rintro r w2 ⟨rfl, rfl⟩
 clear B1
 go_wp2_with fail
 go_ret2
 exact ⟨by (rw [HM.out, HM1.out]; first | done | rfl), K1.out⟩
set_option maxRecDepth 100000 in
set_option maxHeartbeats 16000000 in
theorem psign_ti (a b : Int) (w : World) : Calls Tryz.prog 129 #[.string { data := #[42] }, .int .i64 a, .int .i64 b] w fun e w' => e = .returned (.tuple #[.int .i64 (signP [42] a b).1, .bool (signP [42] a b).2]) ∧ Keeps (fun _ => False) w w' := by
 obtain ⟨w1, hw1⟩ : ∃ w1, w1 = (w.alloc (.cells #[.int .i64 a] 3)).alloc (.cells #[.int .i64 b] 3) := ⟨_, rfl⟩
 have ka : Keeps (fun _ => False) w w1 := by rw [hw1]; exact (Keeps.one w _).trans (Keeps.one _ _) (fun _ _ h => h)
 have h4 : w1.cell? ⟨w.heap.size, 0, none⟩ = some (.int .i64 a) := by
  rw [hw1]
  exact ((Keeps.one (w.alloc (.cells #[.int .i64 a] 3)) (.cells #[.int .i64 b] 3)).cell (by simp) (fun h => h)).trans (by rw [World.cell?_alloc_mark]; rfl)
 have h5 : w1.cell? ⟨w.heap.size + 1, 0, none⟩ = some (.int .i64 b) := by
  rw [hw1]
  rw [show w.heap.size + 1 = (w.alloc (.cells #[.int .i64 a] 3)).heap.size from by simp, World.cell?_alloc_mark]; rfl
 have K1 := Lib.hid ka
 have H45 := Lib.hid (And.intro h4 h5)
 have BC : Hid (∀ t, Calls Tryz.prog 141 #[.int .i64 t, .pointer (some ⟨w.heap.size, 0, none⟩), .pointer (some ⟨w.heap.size + 1, 0, none⟩)] w1 fun e w' => e = .returned (.bool ((a == t) && (b == t))) ∧ w' = w1) := Lib.hid (fun t => pboth_any a b t _ _ w1 H45.out.1 H45.out.2)
 clear ka h4 h5 H45
 go_enter Tryz.func129, Tryz.ntmps129
 go_upto_region 2 with fail
 rw [← hw1]
 generalize w.heap.size + 1 = P5 at BC ⊢
 generalize w.heap.size = P4 at BC ⊢
 clear hw1
 have B1 := Lib.hid (BC.out 1)
 obtain ⟨z1, hz1⟩ : ∃ z, z = ((a == 1) && (b == 1)) := ⟨_, rfl⟩
 rw [← hz1] at B1
 have HM : Hid ((signP [42] a b).2 = z1) := Lib.hid (by rw [hz1]; rfl)
 have HM1 : Hid ((signP [42] a b).1 = 1) := Lib.hid rfl
 clear hz1 BC
 go_wp2_with fail
 refine B1.out.mono ?_
 rintro r w2 ⟨rfl, rfl⟩
 clear B1
 go_wp2_with fail
 go_ret2
 exact ⟨by (rw [HM.out, HM1.out]; first | done | rfl), K1.out⟩
set_option maxRecDepth 100000 in
set_option maxHeartbeats 16000000 in
theorem psign_di (a b : Int) (w : World) : Calls Tryz.prog 129 #[.string { data := #[47] }, .int .i64 a, .int .i64 b] w fun e w' => e = .returned (.tuple #[.int .i64 (signP [47] a b).1, .bool (signP [47] a b).2]) ∧ Keeps (fun _ => False) w w' := by
 obtain ⟨w1, hw1⟩ : ∃ w1, w1 = (w.alloc (.cells #[.int .i64 a] 3)).alloc (.cells #[.int .i64 b] 3) := ⟨_, rfl⟩
 have ka : Keeps (fun _ => False) w w1 := by rw [hw1]; exact (Keeps.one w _).trans (Keeps.one _ _) (fun _ _ h => h)
 have h4 : w1.cell? ⟨w.heap.size, 0, none⟩ = some (.int .i64 a) := by
  rw [hw1]
  exact ((Keeps.one (w.alloc (.cells #[.int .i64 a] 3)) (.cells #[.int .i64 b] 3)).cell (by simp) (fun h => h)).trans (by rw [World.cell?_alloc_mark]; rfl)
 have h5 : w1.cell? ⟨w.heap.size + 1, 0, none⟩ = some (.int .i64 b) := by
  rw [hw1]
  rw [show w.heap.size + 1 = (w.alloc (.cells #[.int .i64 a] 3)).heap.size from by simp, World.cell?_alloc_mark]; rfl
 have K1 := Lib.hid ka
 have H45 := Lib.hid (And.intro h4 h5)
 have BC : Hid (∀ t, Calls Tryz.prog 141 #[.int .i64 t, .pointer (some ⟨w.heap.size, 0, none⟩), .pointer (some ⟨w.heap.size + 1, 0, none⟩)] w1 fun e w' => e = .returned (.bool ((a == t) && (b == t))) ∧ w' = w1) := Lib.hid (fun t => pboth_any a b t _ _ w1 H45.out.1 H45.out.2)
 clear ka h4 h5 H45
 go_enter Tryz.func129, Tryz.ntmps129
 go_upto_region 2 with fail
 rw [← hw1]
 generalize w.heap.size + 1 = P5 at BC ⊢
 generalize w.heap.size = P4 at BC ⊢
 clear hw1
 have B1 := Lib.hid (BC.out 1)
 obtain ⟨z1, hz1⟩ : ∃ z, z = ((a == 1) && (b == 1)) := ⟨_, rfl⟩
 rw [← hz1] at B1
 have HM : Hid ((signP [47] a b).2 = z1) := Lib.hid (by rw [hz1]; rfl)
 have HM1 : Hid ((signP [47] a b).1 = 1) := Lib.hid rfl
 clear hz1 BC
 go_wp2_with fail
 refine B1.out.mono ?_
 rintro r w2 ⟨rfl, rfl⟩
 clear B1
 go_wp2_with fail
 go_ret2
 exact ⟨by (rw [HM.out, HM1.out]; first | done | rfl), K1.out⟩
set_option maxRecDepth 100000 in
set_option maxHeartbeats 16000000 in
theorem psign_mo (a b : Int) (w : World) : Calls Tryz.prog 129 #[.string { data := #[37] }, .int .i64 a, .int .i64 b] w fun e w' => e = .returned (.tuple #[.int .i64 (signP [37] a b).1, .bool (signP [37] a b).2]) ∧ Keeps (fun _ => False) w w' := by
 obtain ⟨w1, hw1⟩ : ∃ w1, w1 = (w.alloc (.cells #[.int .i64 a] 3)).alloc (.cells #[.int .i64 b] 3) := ⟨_, rfl⟩
 have ka : Keeps (fun _ => False) w w1 := by rw [hw1]; exact (Keeps.one w _).trans (Keeps.one _ _) (fun _ _ h => h)
 have h4 : w1.cell? ⟨w.heap.size, 0, none⟩ = some (.int .i64 a) := by
  rw [hw1]
  exact ((Keeps.one (w.alloc (.cells #[.int .i64 a] 3)) (.cells #[.int .i64 b] 3)).cell (by simp) (fun h => h)).trans (by rw [World.cell?_alloc_mark]; rfl)
 have h5 : w1.cell? ⟨w.heap.size + 1, 0, none⟩ = some (.int .i64 b) := by
  rw [hw1]
  rw [show w.heap.size + 1 = (w.alloc (.cells #[.int .i64 a] 3)).heap.size from by simp, World.cell?_alloc_mark]; rfl
 have K1 := Lib.hid ka
 have H45 := Lib.hid (And.intro h4 h5)
 have BC : Hid (∀ t, Calls Tryz.prog 141 #[.int .i64 t, .pointer (some ⟨w.heap.size, 0, none⟩), .pointer (some ⟨w.heap.size + 1, 0, none⟩)] w1 fun e w' => e = .returned (.bool ((a == t) && (b == t))) ∧ w' = w1) := Lib.hid (fun t => pboth_any a b t _ _ w1 H45.out.1 H45.out.2)
 clear ka h4 h5 H45
 go_enter Tryz.func129, Tryz.ntmps129
 go_upto_region 2 with fail
 rw [← hw1]
 generalize w.heap.size + 1 = P5 at BC ⊢
 generalize w.heap.size = P4 at BC ⊢
 clear hw1
 have B1 := Lib.hid (BC.out 1)
 obtain ⟨z1, hz1⟩ : ∃ z, z = ((a == 1) && (b == 1)) := ⟨_, rfl⟩
 rw [← hz1] at B1
 have HM : Hid ((signP [37] a b).2 = z1) := Lib.hid (by rw [hz1]; rfl)
 have HM1 : Hid ((signP [37] a b).1 = 1) := Lib.hid rfl
 clear hz1 BC
 go_wp2_with fail
 refine B1.out.mono ?_
 rintro r w2 ⟨rfl, rfl⟩
 clear B1
 go_wp2_with fail
 go_ret2
 exact ⟨by (rw [HM.out, HM1.out]; first | done | rfl), K1.out⟩
theorem psign_any (x : List UInt8) (hx : x ∈ signs11) (a b : Int) (w : World) : Calls Tryz.prog 129 #[.string (ofL x), .int .i64 a, .int .i64 b] w fun e w' => e = .returned (.tuple #[.int .i64 (signP x a b).1, .bool (signP x a b).2]) ∧ Keeps (fun _ => False) w w' := by
 have h : x = [124, 124] ∨ x = [38, 38] ∨ x = [60] ∨ x = [60, 61] ∨ x = [61, 61] ∨ x = [33, 61] ∨ x = [43] ∨ x = [45] ∨ x = [42] ∨ x = [47] ∨ x = [37] := by simpa [signs11] using hx
 rcases h with rfl | rfl | rfl | rfl | rfl | rfl | rfl | rfl | rfl | rfl | rfl
 ·exact psign_oo a b w
 ·exact psign_aa a b w
 ·exact psign_lt a b w
 ·exact psign_le a b w
 ·exact psign_eq a b w
 ·exact psign_ne a b w
 ·exact psign_pl a b w
 ·exact psign_mi a b w
 ·exact psign_ti a b w
 ·exact psign_di a b w
 ·exact psign_mo a b w
end Go.Proofs.YtbhpnioggpgbhaaGreatDoor
