/-
  Contracts of the functions of package value that the statements of layer 5 go through (numbers). Written by an AI agent.
-/
import Derived.Test.YtpighdioomjnmaaDoorProg
import Derived.WalkKit
import Derived.WalkLawsBesides
import Derived.WalkSpells
import Derived.Outline
import Derived.Below
namespace Go.Proofs.YtpighdioomjnmaaDoor
open Go.RowKit

/-- What a world keeps below another one: cells and marks. -/
theorem bcell {W w1 : World} (hb : Below W.heap.size W w1) : (∀ b o, b < W.heap.size → w1.cell? ⟨b, o, none⟩ = W.cell? ⟨b, o, none⟩) ∧ (∀ b o, b < W.heap.size → w1.frozen? ⟨b, o, none⟩ = W.frozen? ⟨b, o, none⟩) :=
  ⟨fun b o h => hb.cell (p := ⟨b, o, none⟩) h, fun b o h => hb.frozen (p := ⟨b, o, none⟩) h⟩

set_option maxHeartbeats 400000 in
theorem int_any (n : Int) (w : World) :
    Calls Tryd.prog 15 #[.int .i64 n] w fun e w' => e = .returned (.agg #[.int .i64 1, .int .i64 n, .string { data := #[] }]) ∧ Below w.heap.size w w' := by
  go_enter Tryd.func15, Tryd.ntmps15
  go_wp2
  exact bodyPost_ret (v := .agg #[.int .i64 1, .int .i64 n, .string { data := #[] }]) (by simp [results, Tryd.results15, go_sem]) rfl ⟨rfl, (Below.refl _ _).alloc (Nat.le_refl _) _⟩

/-- A bool as a number. -/
def bN (b : Bool) : Int := if b then 1 else 0

set_option maxHeartbeats 400000 in
theorem bool_any (b : Bool) (w : World) :
    Calls Tryd.prog 17 #[.bool b] w fun e w' => e = .returned (.agg #[.int .i64 2, .int .i64 (bN b), .string { data := #[] }]) ∧ Below w.heap.size w w' := by
  cases b
  · go_enter Tryd.func17, Tryd.ntmps17
    go_wp2
    exact bodyPost_ret (v := .agg #[.int .i64 2, .int .i64 0, .string { data := #[] }]) (by simp [results, Tryd.results17, go_sem]) rfl ⟨rfl, (Below.refl _ _).alloc (Nat.le_refl _) _⟩
  · go_enter Tryd.func17, Tryd.ntmps17
    go_wp2
    exact bodyPost_ret (v := .agg #[.int .i64 2, .int .i64 1, .string { data := #[] }]) (by simp [results, Tryd.results17, go_sem]) rfl ⟨rfl, (Below.refl _ _).alloc (Nat.le_refl _) _⟩


set_option maxHeartbeats 400000 in
theorem num_add (a b : Int) (w : World) :
    Calls Tryd.prog 31 #[.string { data := #[43] }, .int .i64 a, .int .i64 b] w fun e w' => e = .returned (.tuple #[.agg #[.int .i64 1, .int .i64 (wrap64 (a + b)), .string { data := #[] }], .int .i64 0]) ∧ Below w.heap.size w w' := by
  go_enter Tryd.func31, Tryd.ntmps31
  go_wp2_with (go_at_call 15; refine (int_any _ _).mono ?_; rintro e w1 ⟨rfl, hb1⟩; obtain ⟨hc1, hf1⟩ := bcell hb1; have hz1 := hb1.size)
  exact bodyPost_ret (v := .tuple #[.agg #[.int .i64 1, .int .i64 (wrap64 (a + b)), .string { data := #[] }], .int .i64 0]) (by simp [results, Tryd.results31, go_sem, hc1]) rfl ⟨rfl, ((((((Below.refl _ _).alloc (Nat.le_refl _) _).trans (hb1.mono (by simp))).setCell (by simp) _).setCell (by simp) _).setCell (by simp) _)⟩

set_option maxHeartbeats 400000 in
theorem bin_add (a b : Int) (w : World) :
    Calls Tryd.prog 13 #[.string { data := #[43] }, .agg #[.int .i64 1, .int .i64 a, .string { data := #[] }], .agg #[.int .i64 1, .int .i64 b, .string { data := #[] }]] w fun e w' => e = .returned (.tuple #[.agg #[.int .i64 1, .int .i64 (wrap64 (a + b)), .string { data := #[] }], .int .i64 0]) ∧ Below w.heap.size w w' := by
  go_enter Tryd.func13, Tryd.ntmps13
  go_wp2_with (go_at_call 31; refine (num_add _ _ _).mono ?_; rintro e w1 ⟨rfl, hb1⟩; obtain ⟨hc1, hf1⟩ := bcell hb1; have hz1 := hb1.size)
  exact bodyPost_ret (v := .tuple #[.agg #[.int .i64 1, .int .i64 (wrap64 (a + b)), .string { data := #[] }], .int .i64 0]) (by simp [results, Tryd.results13, go_sem, hc1]) rfl ⟨rfl, (((((((Below.refl _ _).alloc (Nat.le_refl _) _).alloc (by simp) _).alloc (by simp; omega) _).trans (hb1.mono (by simp; omega))).setCell (by simp; omega) _).setCell (by simp; omega) _).setCell (by simp; omega) _⟩

set_option maxHeartbeats 400000 in
theorem num_sub (a b : Int) (w : World) :
    Calls Tryd.prog 31 #[.string { data := #[45] }, .int .i64 a, .int .i64 b] w fun e w' => e = .returned (.tuple #[.agg #[.int .i64 1, .int .i64 (wrap64 (a - b)), .string { data := #[] }], .int .i64 0]) ∧ Below w.heap.size w w' := by
  go_enter Tryd.func31, Tryd.ntmps31
  go_wp2_with (go_at_call 15; refine (int_any _ _).mono ?_; rintro e w1 ⟨rfl, hb1⟩; obtain ⟨hc1, hf1⟩ := bcell hb1; have hz1 := hb1.size)
  exact bodyPost_ret (v := .tuple #[.agg #[.int .i64 1, .int .i64 (wrap64 (a - b)), .string { data := #[] }], .int .i64 0]) (by simp [results, Tryd.results31, go_sem, hc1]) rfl ⟨rfl, ((((((Below.refl _ _).alloc (Nat.le_refl _) _).trans (hb1.mono (by simp))).setCell (by simp) _).setCell (by simp) _).setCell (by simp) _)⟩

set_option maxHeartbeats 400000 in
theorem bin_sub (a b : Int) (w : World) :
    Calls Tryd.prog 13 #[.string { data := #[45] }, .agg #[.int .i64 1, .int .i64 a, .string { data := #[] }], .agg #[.int .i64 1, .int .i64 b, .string { data := #[] }]] w fun e w' => e = .returned (.tuple #[.agg #[.int .i64 1, .int .i64 (wrap64 (a - b)), .string { data := #[] }], .int .i64 0]) ∧ Below w.heap.size w w' := by
  go_enter Tryd.func13, Tryd.ntmps13
  go_wp2_with (go_at_call 31; refine (num_sub _ _ _).mono ?_; rintro e w1 ⟨rfl, hb1⟩; obtain ⟨hc1, hf1⟩ := bcell hb1; have hz1 := hb1.size)
  exact bodyPost_ret (v := .tuple #[.agg #[.int .i64 1, .int .i64 (wrap64 (a - b)), .string { data := #[] }], .int .i64 0]) (by simp [results, Tryd.results13, go_sem, hc1]) rfl ⟨rfl, (((((((Below.refl _ _).alloc (Nat.le_refl _) _).alloc (by simp) _).alloc (by simp; omega) _).trans (hb1.mono (by simp; omega))).setCell (by simp; omega) _).setCell (by simp; omega) _).setCell (by simp; omega) _⟩

set_option maxHeartbeats 400000 in
theorem num_mul (a b : Int) (w : World) :
    Calls Tryd.prog 31 #[.string { data := #[42] }, .int .i64 a, .int .i64 b] w fun e w' => e = .returned (.tuple #[.agg #[.int .i64 1, .int .i64 (wrap64 (a * b)), .string { data := #[] }], .int .i64 0]) ∧ Below w.heap.size w w' := by
  go_enter Tryd.func31, Tryd.ntmps31
  go_wp2_with (go_at_call 15; refine (int_any _ _).mono ?_; rintro e w1 ⟨rfl, hb1⟩; obtain ⟨hc1, hf1⟩ := bcell hb1; have hz1 := hb1.size)
  exact bodyPost_ret (v := .tuple #[.agg #[.int .i64 1, .int .i64 (wrap64 (a * b)), .string { data := #[] }], .int .i64 0]) (by simp [results, Tryd.results31, go_sem, hc1]) rfl ⟨rfl, ((((((Below.refl _ _).alloc (Nat.le_refl _) _).trans (hb1.mono (by simp))).setCell (by simp) _).setCell (by simp) _).setCell (by simp) _)⟩

set_option maxHeartbeats 400000 in
theorem bin_mul (a b : Int) (w : World) :
    Calls Tryd.prog 13 #[.string { data := #[42] }, .agg #[.int .i64 1, .int .i64 a, .string { data := #[] }], .agg #[.int .i64 1, .int .i64 b, .string { data := #[] }]] w fun e w' => e = .returned (.tuple #[.agg #[.int .i64 1, .int .i64 (wrap64 (a * b)), .string { data := #[] }], .int .i64 0]) ∧ Below w.heap.size w w' := by
  go_enter Tryd.func13, Tryd.ntmps13
  go_wp2_with (go_at_call 31; refine (num_mul _ _ _).mono ?_; rintro e w1 ⟨rfl, hb1⟩; obtain ⟨hc1, hf1⟩ := bcell hb1; have hz1 := hb1.size)
  exact bodyPost_ret (v := .tuple #[.agg #[.int .i64 1, .int .i64 (wrap64 (a * b)), .string { data := #[] }], .int .i64 0]) (by simp [results, Tryd.results13, go_sem, hc1]) rfl ⟨rfl, (((((((Below.refl _ _).alloc (Nat.le_refl _) _).alloc (by simp) _).alloc (by simp; omega) _).trans (hb1.mono (by simp; omega))).setCell (by simp; omega) _).setCell (by simp; omega) _).setCell (by simp; omega) _⟩

set_option maxHeartbeats 400000 in
theorem num_lss (a b : Int) (w : World) :
    Calls Tryd.prog 31 #[.string { data := #[60] }, .int .i64 a, .int .i64 b] w fun e w' => e = .returned (.tuple #[.agg #[.int .i64 2, .int .i64 (bN (decide (a < b))), .string { data := #[] }], .int .i64 0]) ∧ Below w.heap.size w w' := by
  go_enter Tryd.func31, Tryd.ntmps31
  go_wp2_with (go_at_call 17; refine (bool_any _ _).mono ?_; rintro e w1 ⟨rfl, hb1⟩; obtain ⟨hc1, hf1⟩ := bcell hb1; have hz1 := hb1.size)
  exact bodyPost_ret (v := .tuple #[.agg #[.int .i64 2, .int .i64 (bN (decide (a < b))), .string { data := #[] }], .int .i64 0]) (by simp [results, Tryd.results31, go_sem, hc1]) rfl ⟨rfl, ((((((Below.refl _ _).alloc (Nat.le_refl _) _).trans (hb1.mono (by simp))).setCell (by simp) _).setCell (by simp) _).setCell (by simp) _)⟩

set_option maxHeartbeats 400000 in
theorem bin_lss (a b : Int) (w : World) :
    Calls Tryd.prog 13 #[.string { data := #[60] }, .agg #[.int .i64 1, .int .i64 a, .string { data := #[] }], .agg #[.int .i64 1, .int .i64 b, .string { data := #[] }]] w fun e w' => e = .returned (.tuple #[.agg #[.int .i64 2, .int .i64 (bN (decide (a < b))), .string { data := #[] }], .int .i64 0]) ∧ Below w.heap.size w w' := by
  go_enter Tryd.func13, Tryd.ntmps13
  go_wp2_with (go_at_call 31; refine (num_lss _ _ _).mono ?_; rintro e w1 ⟨rfl, hb1⟩; obtain ⟨hc1, hf1⟩ := bcell hb1; have hz1 := hb1.size)
  exact bodyPost_ret (v := .tuple #[.agg #[.int .i64 2, .int .i64 (bN (decide (a < b))), .string { data := #[] }], .int .i64 0]) (by simp [results, Tryd.results13, go_sem, hc1]) rfl ⟨rfl, (((((((Below.refl _ _).alloc (Nat.le_refl _) _).alloc (by simp) _).alloc (by simp; omega) _).trans (hb1.mono (by simp; omega))).setCell (by simp; omega) _).setCell (by simp; omega) _).setCell (by simp; omega) _⟩

set_option maxHeartbeats 400000 in
theorem num_leq (a b : Int) (w : World) :
    Calls Tryd.prog 31 #[.string { data := #[60, 61] }, .int .i64 a, .int .i64 b] w fun e w' => e = .returned (.tuple #[.agg #[.int .i64 2, .int .i64 (bN (decide (a ≤ b))), .string { data := #[] }], .int .i64 0]) ∧ Below w.heap.size w w' := by
  go_enter Tryd.func31, Tryd.ntmps31
  go_wp2_with (go_at_call 17; refine (bool_any _ _).mono ?_; rintro e w1 ⟨rfl, hb1⟩; obtain ⟨hc1, hf1⟩ := bcell hb1; have hz1 := hb1.size)
  exact bodyPost_ret (v := .tuple #[.agg #[.int .i64 2, .int .i64 (bN (decide (a ≤ b))), .string { data := #[] }], .int .i64 0]) (by simp [results, Tryd.results31, go_sem, hc1]) rfl ⟨rfl, ((((((Below.refl _ _).alloc (Nat.le_refl _) _).trans (hb1.mono (by simp))).setCell (by simp) _).setCell (by simp) _).setCell (by simp) _)⟩

set_option maxHeartbeats 400000 in
theorem bin_leq (a b : Int) (w : World) :
    Calls Tryd.prog 13 #[.string { data := #[60, 61] }, .agg #[.int .i64 1, .int .i64 a, .string { data := #[] }], .agg #[.int .i64 1, .int .i64 b, .string { data := #[] }]] w fun e w' => e = .returned (.tuple #[.agg #[.int .i64 2, .int .i64 (bN (decide (a ≤ b))), .string { data := #[] }], .int .i64 0]) ∧ Below w.heap.size w w' := by
  go_enter Tryd.func13, Tryd.ntmps13
  go_wp2_with (go_at_call 31; refine (num_leq _ _ _).mono ?_; rintro e w1 ⟨rfl, hb1⟩; obtain ⟨hc1, hf1⟩ := bcell hb1; have hz1 := hb1.size)
  exact bodyPost_ret (v := .tuple #[.agg #[.int .i64 2, .int .i64 (bN (decide (a ≤ b))), .string { data := #[] }], .int .i64 0]) (by simp [results, Tryd.results13, go_sem, hc1]) rfl ⟨rfl, (((((((Below.refl _ _).alloc (Nat.le_refl _) _).alloc (by simp) _).alloc (by simp; omega) _).trans (hb1.mono (by simp; omega))).setCell (by simp; omega) _).setCell (by simp; omega) _).setCell (by simp; omega) _⟩
end Go.Proofs.YtpighdioomjnmaaDoor
