/-
 Layer 4: the program's done. Written by an AI agent.
-/
import Derived.Test.YtbhpnioggpgbhaaGreatDoorMcax
namespace Go.Proofs.YtbhpnioggpgbhaaGreatDoor
open Go Go.RowKit Go.Shelf
set_option linter.unusedVariables false
set_option linter.unusedSimpArgs false
set_option maxRecDepth 100000 in
set_option maxHeartbeats 16000000 in
theorem done_let (P : Nat) (w : World) (ln n : Int) (X : ByteArray) (a : Option Addr) (m c : Nat) (SO : ByteArray) (ot os : Int) (PC PN : Nat) (t0 t1 : Int) (B0 : Hid (∀ w', Keeps (fun _ => False) w w' → Calls Tryz.prog 128 #[.int .i64 0, .pointer (some ⟨PC, 0, none⟩), .pointer (some ⟨PN, 0, none⟩)] w' fun e w'' => e = .returned (.int .i64 t0) ∧ Keeps (fun _ => False) w' w'')) :
  Calls Tryz.prog 131 #[.pointer (some ⟨P, 0, none⟩), .agg #[.int .i64 10, .int .i64 ln, .int .i64 n, .string X, .slice a m c], .agg #[.string SO, .int .i64 ot, .int .i64 os], .func (.func 128) #[] #[.pointer (some ⟨PC, 0, none⟩), .pointer (some ⟨PN, 0, none⟩)]] w fun e w' => e = .returned (.bool (t0 != 0)) ∧ Keeps (fun _ => False) w w' := by
 go_enter Tryz.func131, Tryz.ntmps131
 go_upto_region 1 with fail
 obtain ⟨w1, hw1⟩ : ∃ w1, w1 = w.alloc (.cells #[.int .i64 10, .int .i64 ln, .int .i64 n, .string X, .slice a m c] 41) := ⟨_, rfl⟩
 have ka := Keeps.one w (.cells #[.int .i64 10, .int .i64 ln, .int .i64 n, .string X, .slice a m c] 41)
 have L5 : Loc w1 (fun _ => False) w.heap.size [.int .i64 10, .int .i64 ln, .int .i64 n, .string X, .slice a m c] := by rw [hw1]; exact Loc.new (fun h => h) [.int .i64 10, .int .i64 ln, .int .i64 n, .string X, .slice a m c] 41
 have e1 : w1.heap.size = w.heap.size + 1 := by rw [hw1]; simp
 rw [← hw1] at ka ⊢
 obtain ⟨w2, hw2⟩ : ∃ w2, w2 = w1.alloc (.cells #[.string SO, .int .i64 ot, .int .i64 os] 46) := ⟨_, rfl⟩
 have kb := Keeps.one w1 (.cells #[.string SO, .int .i64 ot, .int .i64 os] 46)
 have L6 : Loc w2 (fun _ => False) (w.heap.size + 1) [.string SO, .int .i64 ot, .int .i64 os] := by rw [hw2, ← e1]; exact Loc.new (fun h => h) [.string SO, .int .i64 ot, .int .i64 os] 46
 rw [← hw2] at kb ⊢
 generalize w.heap.size + 1 = P6 at L6 e1 ⊢
 generalize w.heap.size = P5 at L5 ⊢
 have L5 := L5.keeps kb
 have K2 := Lib.hid (ka.trans kb (fun _ _ h => h))
 have b0 := L5.cells 0 _ rfl
 have b4 := L5.cells 4 _ rfl
 have o1 := L6.cells 1 _ rfl
 clear ka kb hw1 hw2 e1 L5 L6
 replace B0 := Lib.hid (fun w' (k : Keeps (fun _ => False) w2 w') => (B0.out w' (K2.out.trans k (fun _ _ h => h))).mono (fun e w'' h => And.intro h.1 (k.trans h.2 (fun _ _ h => h))))
 go_wp2_with fail
 refine (B0.out _ (Keeps.refl _ _)).mono ?_
 rintro e w3 ⟨rfl, k3⟩
 clear B0
 go_wp2_with fail
 go_ret
 exact ⟨by first | done | rfl, K2.out.trans k3 (fun _ _ h => h)⟩
set_option maxRecDepth 100000 in
set_option maxHeartbeats 16000000 in
theorem done_print (P : Nat) (w : World) (ln n : Int) (X : ByteArray) (a : Option Addr) (m c : Nat) (SO : ByteArray) (ot os : Int) (PC PN : Nat) (t0 t1 : Int) (B0 : Hid (∀ w', Keeps (fun _ => False) w w' → Calls Tryz.prog 128 #[.int .i64 0, .pointer (some ⟨PC, 0, none⟩), .pointer (some ⟨PN, 0, none⟩)] w' fun e w'' => e = .returned (.int .i64 t0) ∧ Keeps (fun _ => False) w' w'')) :
  Calls Tryz.prog 131 #[.pointer (some ⟨P, 0, none⟩), .agg #[.int .i64 14, .int .i64 ln, .int .i64 n, .string X, .slice a m c], .agg #[.string SO, .int .i64 ot, .int .i64 os], .func (.func 128) #[] #[.pointer (some ⟨PC, 0, none⟩), .pointer (some ⟨PN, 0, none⟩)]] w fun e w' => e = .returned (.bool (t0 != 4)) ∧ Keeps (fun _ => False) w w' := by
 go_enter Tryz.func131, Tryz.ntmps131
 go_upto_region 1 with fail
 obtain ⟨w1, hw1⟩ : ∃ w1, w1 = w.alloc (.cells #[.int .i64 14, .int .i64 ln, .int .i64 n, .string X, .slice a m c] 41) := ⟨_, rfl⟩
 have ka := Keeps.one w (.cells #[.int .i64 14, .int .i64 ln, .int .i64 n, .string X, .slice a m c] 41)
 have L5 : Loc w1 (fun _ => False) w.heap.size [.int .i64 14, .int .i64 ln, .int .i64 n, .string X, .slice a m c] := by rw [hw1]; exact Loc.new (fun h => h) [.int .i64 14, .int .i64 ln, .int .i64 n, .string X, .slice a m c] 41
 have e1 : w1.heap.size = w.heap.size + 1 := by rw [hw1]; simp
 rw [← hw1] at ka ⊢
 obtain ⟨w2, hw2⟩ : ∃ w2, w2 = w1.alloc (.cells #[.string SO, .int .i64 ot, .int .i64 os] 46) := ⟨_, rfl⟩
 have kb := Keeps.one w1 (.cells #[.string SO, .int .i64 ot, .int .i64 os] 46)
 have L6 : Loc w2 (fun _ => False) (w.heap.size + 1) [.string SO, .int .i64 ot, .int .i64 os] := by rw [hw2, ← e1]; exact Loc.new (fun h => h) [.string SO, .int .i64 ot, .int .i64 os] 46
 rw [← hw2] at kb ⊢
 generalize w.heap.size + 1 = P6 at L6 e1 ⊢
 generalize w.heap.size = P5 at L5 ⊢
 have L5 := L5.keeps kb
 have K2 := Lib.hid (ka.trans kb (fun _ _ h => h))
 have b0 := L5.cells 0 _ rfl
 have b4 := L5.cells 4 _ rfl
 have o1 := L6.cells 1 _ rfl
 clear ka kb hw1 hw2 e1 L5 L6
 replace B0 := Lib.hid (fun w' (k : Keeps (fun _ => False) w2 w') => (B0.out w' (K2.out.trans k (fun _ _ h => h))).mono (fun e w'' h => And.intro h.1 (k.trans h.2 (fun _ _ h => h))))
 go_wp2_with fail
 refine (B0.out _ (Keeps.refl _ _)).mono ?_
 rintro e w3 ⟨rfl, k3⟩
 clear B0
 go_wp2_with fail
 go_ret
 exact ⟨by first | done | rfl, K2.out.trans k3 (fun _ _ h => h)⟩
set_option maxRecDepth 100000 in
set_option maxHeartbeats 16000000 in
theorem done_if (P : Nat) (w : World) (ln n : Int) (X : ByteArray) (a : Option Addr) (m c : Nat) (SO : ByteArray) (ot os : Int) (PC PN : Nat) (t0 t1 : Int) (B0 : Hid (∀ w', Keeps (fun _ => False) w w' → Calls Tryz.prog 128 #[.int .i64 0, .pointer (some ⟨PC, 0, none⟩), .pointer (some ⟨PN, 0, none⟩)] w' fun e w'' => e = .returned (.int .i64 t0) ∧ Keeps (fun _ => False) w' w'')) :
  Calls Tryz.prog 131 #[.pointer (some ⟨P, 0, none⟩), .agg #[.int .i64 15, .int .i64 ln, .int .i64 n, .string X, .slice a m c], .agg #[.string SO, .int .i64 ot, .int .i64 os], .func (.func 128) #[] #[.pointer (some ⟨PC, 0, none⟩), .pointer (some ⟨PN, 0, none⟩)]] w fun e w' => e = .returned (.bool (t0 == 2)) ∧ Keeps (fun _ => False) w w' := by
 go_enter Tryz.func131, Tryz.ntmps131
 go_upto_region 1 with fail
 obtain ⟨w1, hw1⟩ : ∃ w1, w1 = w.alloc (.cells #[.int .i64 15, .int .i64 ln, .int .i64 n, .string X, .slice a m c] 41) := ⟨_, rfl⟩
 have ka := Keeps.one w (.cells #[.int .i64 15, .int .i64 ln, .int .i64 n, .string X, .slice a m c] 41)
 have L5 : Loc w1 (fun _ => False) w.heap.size [.int .i64 15, .int .i64 ln, .int .i64 n, .string X, .slice a m c] := by rw [hw1]; exact Loc.new (fun h => h) [.int .i64 15, .int .i64 ln, .int .i64 n, .string X, .slice a m c] 41
 have e1 : w1.heap.size = w.heap.size + 1 := by rw [hw1]; simp
 rw [← hw1] at ka ⊢
 obtain ⟨w2, hw2⟩ : ∃ w2, w2 = w1.alloc (.cells #[.string SO, .int .i64 ot, .int .i64 os] 46) := ⟨_, rfl⟩
 have kb := Keeps.one w1 (.cells #[.string SO, .int .i64 ot, .int .i64 os] 46)
 have L6 : Loc w2 (fun _ => False) (w.heap.size + 1) [.string SO, .int .i64 ot, .int .i64 os] := by rw [hw2, ← e1]; exact Loc.new (fun h => h) [.string SO, .int .i64 ot, .int .i64 os] 46
 rw [← hw2] at kb ⊢
 generalize w.heap.size + 1 = P6 at L6 e1 ⊢
 generalize w.heap.size = P5 at L5 ⊢
 have L5 := L5.keeps kb
 have K2 := Lib.hid (ka.trans kb (fun _ _ h => h))
 have b0 := L5.cells 0 _ rfl
 have b4 := L5.cells 4 _ rfl
 have o1 := L6.cells 1 _ rfl
 clear ka kb hw1 hw2 e1 L5 L6
 replace B0 := Lib.hid (fun w' (k : Keeps (fun _ => False) w2 w') => (B0.out w' (K2.out.trans k (fun _ _ h => h))).mono (fun e w'' h => And.intro h.1 (k.trans h.2 (fun _ _ h => h))))
 go_wp2_with fail
 refine (B0.out _ (Keeps.refl _ _)).mono ?_
 rintro e w3 ⟨rfl, k3⟩
 clear B0
 go_wp2_with fail
 go_ret
 exact ⟨by first | done | rfl, K2.out.trans k3 (fun _ _ h => h)⟩
set_option maxRecDepth 100000 in
set_option maxHeartbeats 16000000 in
theorem done_whil (P : Nat) (w : World) (ln n : Int) (X : ByteArray) (a : Option Addr) (m c : Nat) (SO : ByteArray) (ot os : Int) (PC PN : Nat) (t0 t1 : Int) (B0 : Hid (∀ w', Keeps (fun _ => False) w w' → Calls Tryz.prog 128 #[.int .i64 0, .pointer (some ⟨PC, 0, none⟩), .pointer (some ⟨PN, 0, none⟩)] w' fun e w'' => e = .returned (.int .i64 t0) ∧ Keeps (fun _ => False) w' w'')) :
  Calls Tryz.prog 131 #[.pointer (some ⟨P, 0, none⟩), .agg #[.int .i64 16, .int .i64 ln, .int .i64 n, .string X, .slice a m c], .agg #[.string SO, .int .i64 ot, .int .i64 os], .func (.func 128) #[] #[.pointer (some ⟨PC, 0, none⟩), .pointer (some ⟨PN, 0, none⟩)]] w fun e w' => e = .returned (.bool (t0 == 2)) ∧ Keeps (fun _ => False) w w' := by
 go_enter Tryz.func131, Tryz.ntmps131
 go_upto_region 1 with fail
 obtain ⟨w1, hw1⟩ : ∃ w1, w1 = w.alloc (.cells #[.int .i64 16, .int .i64 ln, .int .i64 n, .string X, .slice a m c] 41) := ⟨_, rfl⟩
 have ka := Keeps.one w (.cells #[.int .i64 16, .int .i64 ln, .int .i64 n, .string X, .slice a m c] 41)
 have L5 : Loc w1 (fun _ => False) w.heap.size [.int .i64 16, .int .i64 ln, .int .i64 n, .string X, .slice a m c] := by rw [hw1]; exact Loc.new (fun h => h) [.int .i64 16, .int .i64 ln, .int .i64 n, .string X, .slice a m c] 41
 have e1 : w1.heap.size = w.heap.size + 1 := by rw [hw1]; simp
 rw [← hw1] at ka ⊢
 obtain ⟨w2, hw2⟩ : ∃ w2, w2 = w1.alloc (.cells #[.string SO, .int .i64 ot, .int .i64 os] 46) := ⟨_, rfl⟩
 have kb := Keeps.one w1 (.cells #[.string SO, .int .i64 ot, .int .i64 os] 46)
 have L6 : Loc w2 (fun _ => False) (w.heap.size + 1) [.string SO, .int .i64 ot, .int .i64 os] := by rw [hw2, ← e1]; exact Loc.new (fun h => h) [.string SO, .int .i64 ot, .int .i64 os] 46
 rw [← hw2] at kb ⊢
 generalize w.heap.size + 1 = P6 at L6 e1 ⊢
 generalize w.heap.size = P5 at L5 ⊢
 have L5 := L5.keeps kb
 have K2 := Lib.hid (ka.trans kb (fun _ _ h => h))
 have b0 := L5.cells 0 _ rfl
 have b4 := L5.cells 4 _ rfl
 have o1 := L6.cells 1 _ rfl
 clear ka kb hw1 hw2 e1 L5 L6
 replace B0 := Lib.hid (fun w' (k : Keeps (fun _ => False) w2 w') => (B0.out w' (K2.out.trans k (fun _ _ h => h))).mono (fun e w'' h => And.intro h.1 (k.trans h.2 (fun _ _ h => h))))
 go_wp2_with fail
 refine (B0.out _ (Keeps.refl _ _)).mono ?_
 rintro e w3 ⟨rfl, k3⟩
 clear B0
 go_wp2_with fail
 go_ret
 exact ⟨by first | done | rfl, K2.out.trans k3 (fun _ _ h => h)⟩
set_option maxRecDepth 100000 in
set_option maxHeartbeats 16000000 in
theorem done_set (P : Nat) (w : World) (ln n : Int) (X : ByteArray) (a : Option Addr) (m c : Nat) (SO : ByteArray) (ot os : Int) (PC PN : Nat) (t0 t1 : Int) (B0 : Hid (∀ w', Keeps (fun _ => False) w w' → Calls Tryz.prog 128 #[.int .i64 0, .pointer (some ⟨PC, 0, none⟩), .pointer (some ⟨PN, 0, none⟩)] w' fun e w'' => e = .returned (.int .i64 t0) ∧ Keeps (fun _ => False) w' w'')) :
  Calls Tryz.prog 131 #[.pointer (some ⟨P, 0, none⟩), .agg #[.int .i64 11, .int .i64 ln, .int .i64 n, .string X, .slice a m c], .agg #[.string SO, .int .i64 ot, .int .i64 os], .func (.func 128) #[] #[.pointer (some ⟨PC, 0, none⟩), .pointer (some ⟨PN, 0, none⟩)]] w fun e w' => e = .returned (.bool (t0 == ot)) ∧ Keeps (fun _ => False) w w' := by
 go_enter Tryz.func131, Tryz.ntmps131
 go_upto_region 1 with fail
 obtain ⟨w1, hw1⟩ : ∃ w1, w1 = w.alloc (.cells #[.int .i64 11, .int .i64 ln, .int .i64 n, .string X, .slice a m c] 41) := ⟨_, rfl⟩
 have ka := Keeps.one w (.cells #[.int .i64 11, .int .i64 ln, .int .i64 n, .string X, .slice a m c] 41)
 have L5 : Loc w1 (fun _ => False) w.heap.size [.int .i64 11, .int .i64 ln, .int .i64 n, .string X, .slice a m c] := by rw [hw1]; exact Loc.new (fun h => h) [.int .i64 11, .int .i64 ln, .int .i64 n, .string X, .slice a m c] 41
 have e1 : w1.heap.size = w.heap.size + 1 := by rw [hw1]; simp
 rw [← hw1] at ka ⊢
 obtain ⟨w2, hw2⟩ : ∃ w2, w2 = w1.alloc (.cells #[.string SO, .int .i64 ot, .int .i64 os] 46) := ⟨_, rfl⟩
 have kb := Keeps.one w1 (.cells #[.string SO, .int .i64 ot, .int .i64 os] 46)
 have L6 : Loc w2 (fun _ => False) (w.heap.size + 1) [.string SO, .int .i64 ot, .int .i64 os] := by rw [hw2, ← e1]; exact Loc.new (fun h => h) [.string SO, .int .i64 ot, .int .i64 os] 46
 rw [← hw2] at kb ⊢
 generalize w.heap.size + 1 = P6 at L6 e1 ⊢
 generalize w.heap.size = P5 at L5 ⊢
 have L5 := L5.keeps kb
 have K2 := Lib.hid (ka.trans kb (fun _ _ h => h))
 have b0 := L5.cells 0 _ rfl
 have b4 := L5.cells 4 _ rfl
 have o1 := L6.cells 1 _ rfl
 clear ka kb hw1 hw2 e1 L5 L6
 replace B0 := Lib.hid (fun w' (k : Keeps (fun _ => False) w2 w') => (B0.out w' (K2.out.trans k (fun _ _ h => h))).mono (fun e w'' h => And.intro h.1 (k.trans h.2 (fun _ _ h => h))))
 have SK : Hid (∀ w', Keeps (fun _ => False) w2 w' → (w'.cell? ⟨P6, 1, none⟩ = some (.int .i64 ot)) ∧ Keeps (fun _ => False) w2 w') := Lib.hid (fun w' q => ⟨(q.cell (cell_ltk o1) (fun h => h)).trans o1, q⟩)
 go_upto_region 5 with fail
 clear o1
 go_region_held3 (fun w' => (w'.cell? ⟨P6, 1, none⟩ = some (.int .i64 ot)) ∧ Keeps (fun _ => False) w2 w') (first | exact SK.out _ (Keeps.refl _ _) | exact SK.out _ (by assumption) | exact SK.out _ ((Keeps.refl _ _).drew) | exact SK.out _ (Keeps.drew (by assumption))) (first | (go_at_call 128; refine (B0.out _ (by first | assumption | exact (Keeps.refl _ _).drew | exact Keeps.drew (by assumption) | exact Keeps.refl _ _)).mono ?_; rintro e w3 ⟨rfl, k3⟩))
 all_goals go_wp2_with fail
 all_goals go_ret
 all_goals exact ⟨by first | done | rfl, K2.out.trans (by first | assumption | exact Keeps.drew (by assumption)) (fun _ _ h => h)⟩
set_option maxRecDepth 100000 in
set_option maxHeartbeats 16000000 in
theorem done_put0 (P : Nat) (w : World) (ln n : Int) (X : ByteArray) (a : Option Addr) (m c : Nat) (SO : ByteArray) (ot os : Int) (PC PN : Nat) (t0 t1 : Int) (B0 : Hid (∀ w', Keeps (fun _ => False) w w' → Calls Tryz.prog 128 #[.int .i64 0, .pointer (some ⟨PC, 0, none⟩), .pointer (some ⟨PN, 0, none⟩)] w' fun e w'' => e = .returned (.int .i64 t0) ∧ Keeps (fun _ => False) w' w'')) (B1 : Hid (∀ w', Keeps (fun _ => False) w w' → Calls Tryz.prog 128 #[.int .i64 1, .pointer (some ⟨PC, 0, none⟩), .pointer (some ⟨PN, 0, none⟩)] w' fun e w'' => e = .returned (.int .i64 t1) ∧ Keeps (fun _ => False) w' w'')) (h4 : (ot == 4) = false) :
  Calls Tryz.prog 131 #[.pointer (some ⟨P, 0, none⟩), .agg #[.int .i64 12, .int .i64 ln, .int .i64 n, .string X, .slice a m c], .agg #[.string SO, .int .i64 ot, .int .i64 os], .func (.func 128) #[] #[.pointer (some ⟨PC, 0, none⟩), .pointer (some ⟨PN, 0, none⟩)]] w fun e w' => e = .returned (.bool false) ∧ Keeps (fun _ => False) w w' := by
 go_enter Tryz.func131, Tryz.ntmps131
 go_upto_region 1 with fail
 obtain ⟨w1, hw1⟩ : ∃ w1, w1 = w.alloc (.cells #[.int .i64 12, .int .i64 ln, .int .i64 n, .string X, .slice a m c] 41) := ⟨_, rfl⟩
 have ka := Keeps.one w (.cells #[.int .i64 12, .int .i64 ln, .int .i64 n, .string X, .slice a m c] 41)
 have L5 : Loc w1 (fun _ => False) w.heap.size [.int .i64 12, .int .i64 ln, .int .i64 n, .string X, .slice a m c] := by rw [hw1]; exact Loc.new (fun h => h) [.int .i64 12, .int .i64 ln, .int .i64 n, .string X, .slice a m c] 41
 have e1 : w1.heap.size = w.heap.size + 1 := by rw [hw1]; simp
 rw [← hw1] at ka ⊢
 obtain ⟨w2, hw2⟩ : ∃ w2, w2 = w1.alloc (.cells #[.string SO, .int .i64 ot, .int .i64 os] 46) := ⟨_, rfl⟩
 have kb := Keeps.one w1 (.cells #[.string SO, .int .i64 ot, .int .i64 os] 46)
 have L6 : Loc w2 (fun _ => False) (w.heap.size + 1) [.string SO, .int .i64 ot, .int .i64 os] := by rw [hw2, ← e1]; exact Loc.new (fun h => h) [.string SO, .int .i64 ot, .int .i64 os] 46
 rw [← hw2] at kb ⊢
 generalize w.heap.size + 1 = P6 at L6 e1 ⊢
 generalize w.heap.size = P5 at L5 ⊢
 have L5 := L5.keeps kb
 have K2 := Lib.hid (ka.trans kb (fun _ _ h => h))
 have b0 := L5.cells 0 _ rfl
 have b4 := L5.cells 4 _ rfl
 have o1 := L6.cells 1 _ rfl
 clear ka kb hw1 hw2 e1 L5 L6
 go_wp2_with fail
 go_ret
 exact ⟨by first | done | rfl, K2.out.trans (Keeps.refl _ _) (fun _ _ h => h)⟩
set_option maxRecDepth 100000 in
set_option maxHeartbeats 16000000 in
theorem done_put1 (P : Nat) (w : World) (ln n : Int) (X : ByteArray) (a : Option Addr) (m c : Nat) (SO : ByteArray) (ot os : Int) (PC PN : Nat) (t0 t1 : Int) (B0 : Hid (∀ w', Keeps (fun _ => False) w w' → Calls Tryz.prog 128 #[.int .i64 0, .pointer (some ⟨PC, 0, none⟩), .pointer (some ⟨PN, 0, none⟩)] w' fun e w'' => e = .returned (.int .i64 t0) ∧ Keeps (fun _ => False) w' w'')) (B1 : Hid (∀ w', Keeps (fun _ => False) w w' → Calls Tryz.prog 128 #[.int .i64 1, .pointer (some ⟨PC, 0, none⟩), .pointer (some ⟨PN, 0, none⟩)] w' fun e w'' => e = .returned (.int .i64 t1) ∧ Keeps (fun _ => False) w' w'')) (h4 : (ot == 4) = true) (h5 : (t0 == 1) = false) :
  Calls Tryz.prog 131 #[.pointer (some ⟨P, 0, none⟩), .agg #[.int .i64 12, .int .i64 ln, .int .i64 n, .string X, .slice a m c], .agg #[.string SO, .int .i64 ot, .int .i64 os], .func (.func 128) #[] #[.pointer (some ⟨PC, 0, none⟩), .pointer (some ⟨PN, 0, none⟩)]] w fun e w' => e = .returned (.bool false) ∧ Keeps (fun _ => False) w w' := by
 go_enter Tryz.func131, Tryz.ntmps131
 go_upto_region 1 with fail
 obtain ⟨w1, hw1⟩ : ∃ w1, w1 = w.alloc (.cells #[.int .i64 12, .int .i64 ln, .int .i64 n, .string X, .slice a m c] 41) := ⟨_, rfl⟩
 have ka := Keeps.one w (.cells #[.int .i64 12, .int .i64 ln, .int .i64 n, .string X, .slice a m c] 41)
 have L5 : Loc w1 (fun _ => False) w.heap.size [.int .i64 12, .int .i64 ln, .int .i64 n, .string X, .slice a m c] := by rw [hw1]; exact Loc.new (fun h => h) [.int .i64 12, .int .i64 ln, .int .i64 n, .string X, .slice a m c] 41
 have e1 : w1.heap.size = w.heap.size + 1 := by rw [hw1]; simp
 rw [← hw1] at ka ⊢
 obtain ⟨w2, hw2⟩ : ∃ w2, w2 = w1.alloc (.cells #[.string SO, .int .i64 ot, .int .i64 os] 46) := ⟨_, rfl⟩
 have kb := Keeps.one w1 (.cells #[.string SO, .int .i64 ot, .int .i64 os] 46)
 have L6 : Loc w2 (fun _ => False) (w.heap.size + 1) [.string SO, .int .i64 ot, .int .i64 os] := by rw [hw2, ← e1]; exact Loc.new (fun h => h) [.string SO, .int .i64 ot, .int .i64 os] 46
 rw [← hw2] at kb ⊢
 generalize w.heap.size + 1 = P6 at L6 e1 ⊢
 generalize w.heap.size = P5 at L5 ⊢
 have L5 := L5.keeps kb
 have K2 := Lib.hid (ka.trans kb (fun _ _ h => h))
 have b0 := L5.cells 0 _ rfl
 have b4 := L5.cells 4 _ rfl
 have o1 := L6.cells 1 _ rfl
 clear ka kb hw1 hw2 e1 L5 L6
 replace B0 := Lib.hid (fun w' (k : Keeps (fun _ => False) w2 w') => (B0.out w' (K2.out.trans k (fun _ _ h => h))).mono (fun e w'' h => And.intro h.1 (k.trans h.2 (fun _ _ h => h))))
 go_wp2_with fail
 refine (B0.out _ (Keeps.refl _ _)).mono ?_
 rintro e w3 ⟨rfl, k3⟩
 clear B0
 go_wp2_with fail
 go_ret
 exact ⟨by first | done | rfl, K2.out.trans k3 (fun _ _ h => h)⟩
set_option maxRecDepth 100000 in
set_option maxHeartbeats 16000000 in
theorem done_put2 (P : Nat) (w : World) (ln n : Int) (X : ByteArray) (a : Option Addr) (m c : Nat) (SO : ByteArray) (ot os : Int) (PC PN : Nat) (t0 t1 : Int) (B0 : Hid (∀ w', Keeps (fun _ => False) w w' → Calls Tryz.prog 128 #[.int .i64 0, .pointer (some ⟨PC, 0, none⟩), .pointer (some ⟨PN, 0, none⟩)] w' fun e w'' => e = .returned (.int .i64 t0) ∧ Keeps (fun _ => False) w' w'')) (B1 : Hid (∀ w', Keeps (fun _ => False) w w' → Calls Tryz.prog 128 #[.int .i64 1, .pointer (some ⟨PC, 0, none⟩), .pointer (some ⟨PN, 0, none⟩)] w' fun e w'' => e = .returned (.int .i64 t1) ∧ Keeps (fun _ => False) w' w'')) (h4 : (ot == 4) = true) (h5 : (t0 == 1) = true) :
  Calls Tryz.prog 131 #[.pointer (some ⟨P, 0, none⟩), .agg #[.int .i64 12, .int .i64 ln, .int .i64 n, .string X, .slice a m c], .agg #[.string SO, .int .i64 ot, .int .i64 os], .func (.func 128) #[] #[.pointer (some ⟨PC, 0, none⟩), .pointer (some ⟨PN, 0, none⟩)]] w fun e w' => e = .returned (.bool (t1 == 1)) ∧ Keeps (fun _ => False) w w' := by
 go_enter Tryz.func131, Tryz.ntmps131
 go_upto_region 1 with fail
 obtain ⟨w1, hw1⟩ : ∃ w1, w1 = w.alloc (.cells #[.int .i64 12, .int .i64 ln, .int .i64 n, .string X, .slice a m c] 41) := ⟨_, rfl⟩
 have ka := Keeps.one w (.cells #[.int .i64 12, .int .i64 ln, .int .i64 n, .string X, .slice a m c] 41)
 have L5 : Loc w1 (fun _ => False) w.heap.size [.int .i64 12, .int .i64 ln, .int .i64 n, .string X, .slice a m c] := by rw [hw1]; exact Loc.new (fun h => h) [.int .i64 12, .int .i64 ln, .int .i64 n, .string X, .slice a m c] 41
 have e1 : w1.heap.size = w.heap.size + 1 := by rw [hw1]; simp
 rw [← hw1] at ka ⊢
 obtain ⟨w2, hw2⟩ : ∃ w2, w2 = w1.alloc (.cells #[.string SO, .int .i64 ot, .int .i64 os] 46) := ⟨_, rfl⟩
 have kb := Keeps.one w1 (.cells #[.string SO, .int .i64 ot, .int .i64 os] 46)
 have L6 : Loc w2 (fun _ => False) (w.heap.size + 1) [.string SO, .int .i64 ot, .int .i64 os] := by rw [hw2, ← e1]; exact Loc.new (fun h => h) [.string SO, .int .i64 ot, .int .i64 os] 46
 rw [← hw2] at kb ⊢
 generalize w.heap.size + 1 = P6 at L6 e1 ⊢
 generalize w.heap.size = P5 at L5 ⊢
 have L5 := L5.keeps kb
 have K2 := Lib.hid (ka.trans kb (fun _ _ h => h))
 have b0 := L5.cells 0 _ rfl
 have b4 := L5.cells 4 _ rfl
 have o1 := L6.cells 1 _ rfl
 clear ka kb hw1 hw2 e1 L5 L6
 replace B0 := Lib.hid (fun w' (k : Keeps (fun _ => False) w2 w') => (B0.out w' (K2.out.trans k (fun _ _ h => h))).mono (fun e w'' h => And.intro h.1 (k.trans h.2 (fun _ _ h => h))))
 replace B1 := Lib.hid (fun w' (k : Keeps (fun _ => False) w2 w') => (B1.out w' (K2.out.trans k (fun _ _ h => h))).mono (fun e w'' h => And.intro h.1 (k.trans h.2 (fun _ _ h => h))))
 go_wp2_with fail
 refine (B0.out _ (Keeps.refl _ _)).mono ?_
 rintro e w3 ⟨rfl, k3⟩
 clear B0
 go_wp2_with fail
 refine (B1.out _ k3).mono ?_
 rintro e w4 ⟨rfl, k4⟩
 clear B1
 go_wp2_with fail
 go_ret
 exact ⟨by first | done | rfl, K2.out.trans k4 (fun _ _ h => h)⟩
set_option maxRecDepth 100000 in
set_option maxHeartbeats 16000000 in
theorem done_doo (P : Nat) (w : World) (ln n : Int) (X : ByteArray) (a : Option Addr) (m c : Nat) (SO : ByteArray) (ot os : Int) (PC PN : Nat) (t0 t1 : Int) :
  Calls Tryz.prog 131 #[.pointer (some ⟨P, 0, none⟩), .agg #[.int .i64 13, .int .i64 ln, .int .i64 n, .string X, .slice a m c], .agg #[.string SO, .int .i64 ot, .int .i64 os], .func (.func 128) #[] #[.pointer (some ⟨PC, 0, none⟩), .pointer (some ⟨PN, 0, none⟩)]] w fun e w' => e = .returned (.bool true) ∧ Keeps (fun _ => False) w w' := by
 go_enter Tryz.func131, Tryz.ntmps131
 go_upto_region 1 with fail
 obtain ⟨w1, hw1⟩ : ∃ w1, w1 = w.alloc (.cells #[.int .i64 13, .int .i64 ln, .int .i64 n, .string X, .slice a m c] 41) := ⟨_, rfl⟩
 have ka := Keeps.one w (.cells #[.int .i64 13, .int .i64 ln, .int .i64 n, .string X, .slice a m c] 41)
 have L5 : Loc w1 (fun _ => False) w.heap.size [.int .i64 13, .int .i64 ln, .int .i64 n, .string X, .slice a m c] := by rw [hw1]; exact Loc.new (fun h => h) [.int .i64 13, .int .i64 ln, .int .i64 n, .string X, .slice a m c] 41
 have e1 : w1.heap.size = w.heap.size + 1 := by rw [hw1]; simp
 rw [← hw1] at ka ⊢
 obtain ⟨w2, hw2⟩ : ∃ w2, w2 = w1.alloc (.cells #[.string SO, .int .i64 ot, .int .i64 os] 46) := ⟨_, rfl⟩
 have kb := Keeps.one w1 (.cells #[.string SO, .int .i64 ot, .int .i64 os] 46)
 have L6 : Loc w2 (fun _ => False) (w.heap.size + 1) [.string SO, .int .i64 ot, .int .i64 os] := by rw [hw2, ← e1]; exact Loc.new (fun h => h) [.string SO, .int .i64 ot, .int .i64 os] 46
 rw [← hw2] at kb ⊢
 generalize w.heap.size + 1 = P6 at L6 e1 ⊢
 generalize w.heap.size = P5 at L5 ⊢
 have L5 := L5.keeps kb
 have K2 := Lib.hid (ka.trans kb (fun _ _ h => h))
 have b0 := L5.cells 0 _ rfl
 have b4 := L5.cells 4 _ rfl
 have o1 := L6.cells 1 _ rfl
 clear ka kb hw1 hw2 e1 L5 L6
 go_wp2_with fail
 go_ret
 exact ⟨by first | done | rfl, K2.out.trans (Keeps.refl _ _) (fun _ _ h => h)⟩
set_option maxRecDepth 100000 in
set_option maxHeartbeats 16000000 in
theorem done_ret0 (P : Nat) (w : World) (ln n : Int) (X : ByteArray) (a : Option Addr) (m c : Nat) (SO : ByteArray) (ot os : Int) (PC PN : Nat) (t0 t1 : Int) (hm : m = 0) :
  Calls Tryz.prog 131 #[.pointer (some ⟨P, 0, none⟩), .agg #[.int .i64 17, .int .i64 ln, .int .i64 n, .string X, .slice a 0 c], .agg #[.string SO, .int .i64 ot, .int .i64 os], .func (.func 128) #[] #[.pointer (some ⟨PC, 0, none⟩), .pointer (some ⟨PN, 0, none⟩)]] w fun e w' => e = .returned (.bool true) ∧ Keeps (fun _ => False) w w' := by
 subst hm
 go_enter Tryz.func131, Tryz.ntmps131
 go_upto_region 1 with fail
 obtain ⟨w1, hw1⟩ : ∃ w1, w1 = w.alloc (.cells #[.int .i64 17, .int .i64 ln, .int .i64 n, .string X, .slice a 0 c] 41) := ⟨_, rfl⟩
 have ka := Keeps.one w (.cells #[.int .i64 17, .int .i64 ln, .int .i64 n, .string X, .slice a 0 c] 41)
 have L5 : Loc w1 (fun _ => False) w.heap.size [.int .i64 17, .int .i64 ln, .int .i64 n, .string X, .slice a 0 c] := by rw [hw1]; exact Loc.new (fun h => h) [.int .i64 17, .int .i64 ln, .int .i64 n, .string X, .slice a 0 c] 41
 have e1 : w1.heap.size = w.heap.size + 1 := by rw [hw1]; simp
 rw [← hw1] at ka ⊢
 obtain ⟨w2, hw2⟩ : ∃ w2, w2 = w1.alloc (.cells #[.string SO, .int .i64 ot, .int .i64 os] 46) := ⟨_, rfl⟩
 have kb := Keeps.one w1 (.cells #[.string SO, .int .i64 ot, .int .i64 os] 46)
 have L6 : Loc w2 (fun _ => False) (w.heap.size + 1) [.string SO, .int .i64 ot, .int .i64 os] := by rw [hw2, ← e1]; exact Loc.new (fun h => h) [.string SO, .int .i64 ot, .int .i64 os] 46
 rw [← hw2] at kb ⊢
 generalize w.heap.size + 1 = P6 at L6 e1 ⊢
 generalize w.heap.size = P5 at L5 ⊢
 have L5 := L5.keeps kb
 have K2 := Lib.hid (ka.trans kb (fun _ _ h => h))
 have b0 := L5.cells 0 _ rfl
 have b4 := L5.cells 4 _ rfl
 have o1 := L6.cells 1 _ rfl
 clear ka kb hw1 hw2 e1 L5 L6
 go_upto_region 14 with fail
 go_quiet (fail)
 go_wp2_with fail
 go_ret
 exact ⟨by first | done | rfl, K2.out.trans (drewN_keeps _ _) (fun _ _ h => h)⟩
set_option maxRecDepth 100000 in
set_option maxHeartbeats 16000000 in
theorem done_ret1 (P : Nat) (w : World) (ln n : Int) (X : ByteArray) (a : Option Addr) (m c : Nat) (SO : ByteArray) (ot os : Int) (PC PN : Nat) (t0 t1 : Int) (B0 : Hid (∀ w', Keeps (fun _ => False) w w' → Calls Tryz.prog 128 #[.int .i64 0, .pointer (some ⟨PC, 0, none⟩), .pointer (some ⟨PN, 0, none⟩)] w' fun e w'' => e = .returned (.int .i64 t0) ∧ Keeps (fun _ => False) w' w'')) (hm : 0 < m) (fb fo KN cd f : Nat) (rt : Int) (c1 : w.cell? ⟨P, 1, none⟩ = some (.slice (some ⟨fb, fo, none⟩) KN cd)) (c7 : w.cell? ⟨P, 7, none⟩ = some (.int .i64 f)) (d3 : w.cell? ⟨fb, fo + f * 5 + 3, none⟩ = some (.int .i64 rt)) (hf : f < KN) :
  Calls Tryz.prog 131 #[.pointer (some ⟨P, 0, none⟩), .agg #[.int .i64 17, .int .i64 ln, .int .i64 n, .string X, .slice a m c], .agg #[.string SO, .int .i64 ot, .int .i64 os], .func (.func 128) #[] #[.pointer (some ⟨PC, 0, none⟩), .pointer (some ⟨PN, 0, none⟩)]] w fun e w' => e = .returned (.bool (t0 == rt)) ∧ Keeps (fun _ => False) w w' := by
 have hm0 : ((m : Int) == 0) = false := by simp; omega
 have hfI : (f : Int) < (KN : Int) := by omega
 have hf0 : (0 : Int) ≤ (f : Int) := by omega
 go_enter Tryz.func131, Tryz.ntmps131
 go_upto_region 1 with fail
 obtain ⟨w1, hw1⟩ : ∃ w1, w1 = w.alloc (.cells #[.int .i64 17, .int .i64 ln, .int .i64 n, .string X, .slice a m c] 41) := ⟨_, rfl⟩
 have ka := Keeps.one w (.cells #[.int .i64 17, .int .i64 ln, .int .i64 n, .string X, .slice a m c] 41)
 have L5 : Loc w1 (fun _ => False) w.heap.size [.int .i64 17, .int .i64 ln, .int .i64 n, .string X, .slice a m c] := by rw [hw1]; exact Loc.new (fun h => h) [.int .i64 17, .int .i64 ln, .int .i64 n, .string X, .slice a m c] 41
 have e1 : w1.heap.size = w.heap.size + 1 := by rw [hw1]; simp
 rw [← hw1] at ka ⊢
 obtain ⟨w2, hw2⟩ : ∃ w2, w2 = w1.alloc (.cells #[.string SO, .int .i64 ot, .int .i64 os] 46) := ⟨_, rfl⟩
 have kb := Keeps.one w1 (.cells #[.string SO, .int .i64 ot, .int .i64 os] 46)
 have L6 : Loc w2 (fun _ => False) (w.heap.size + 1) [.string SO, .int .i64 ot, .int .i64 os] := by rw [hw2, ← e1]; exact Loc.new (fun h => h) [.string SO, .int .i64 ot, .int .i64 os] 46
 rw [← hw2] at kb ⊢
 generalize w.heap.size + 1 = P6 at L6 e1 ⊢
 generalize w.heap.size = P5 at L5 ⊢
 have L5 := L5.keeps kb
 have K2 := Lib.hid (ka.trans kb (fun _ _ h => h))
 have b0 := L5.cells 0 _ rfl
 have b4 := L5.cells 4 _ rfl
 have o1 := L6.cells 1 _ rfl
 clear ka kb hw1 hw2 e1 L5 L6
 replace B0 := Lib.hid (fun w' (k : Keeps (fun _ => False) w2 w') => (B0.out w' (K2.out.trans k (fun _ _ h => h))).mono (fun e w'' h => And.intro h.1 (k.trans h.2 (fun _ _ h => h))))
 replace c1 := (K2.out.cell (cell_ltk c1) (fun h => h)).trans c1
 replace c7 := (K2.out.cell (cell_ltk c7) (fun h => h)).trans c7
 replace d3 := (K2.out.cell (cell_ltk d3) (fun h => h)).trans d3
 have SK : Hid (∀ w', Keeps (fun _ => False) w2 w' → (w'.cell? ⟨P5, 4, none⟩ = some (.slice a m c) ∧ w'.cell? ⟨P, 1, none⟩ = some (.slice (some ⟨fb, fo, none⟩) KN cd) ∧ w'.cell? ⟨P, 7, none⟩ = some (.int .i64 f) ∧ w'.cell? ⟨fb, fo + f * 5 + 3, none⟩ = some (.int .i64 rt)) ∧ Keeps (fun _ => False) w2 w') := Lib.hid (fun w' q => ⟨⟨(q.cell (cell_ltk b4) (fun h => h)).trans b4, (q.cell (cell_ltk c1) (fun h => h)).trans c1, (q.cell (cell_ltk c7) (fun h => h)).trans c7, (q.cell (cell_ltk d3) (fun h => h)).trans d3⟩, q⟩)
 go_upto_region 14 with fail
 clear o1 b0 b4 c1 c7 d3
 go_region_held3 (fun w' => (w'.cell? ⟨P5, 4, none⟩ = some (.slice a m c) ∧ w'.cell? ⟨P, 1, none⟩ = some (.slice (some ⟨fb, fo, none⟩) KN cd) ∧ w'.cell? ⟨P, 7, none⟩ = some (.int .i64 f) ∧ w'.cell? ⟨fb, fo + f * 5 + 3, none⟩ = some (.int .i64 rt)) ∧ Keeps (fun _ => False) w2 w') (first | exact SK.out _ (Keeps.refl _ _) | exact SK.out _ (by assumption) | exact SK.out _ ((Keeps.refl _ _).drew) | exact SK.out _ (Keeps.drew (by assumption))) (first | (go_at_call 128; refine (B0.out _ (by first | assumption | exact (Keeps.refl _ _).drew | exact Keeps.drew (by assumption) | exact Keeps.refl _ _)).mono ?_; rintro e w3 ⟨rfl, k3⟩))
 all_goals go_wp2_with fail
 all_goals go_ret
 all_goals exact ⟨by first | done | rfl, K2.out.trans (by first | assumption | exact Keeps.drew (by assumption)) (fun _ _ h => h)⟩
end Go.Proofs.YtbhpnioggpgbhaaGreatDoor
