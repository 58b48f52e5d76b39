/-
  Layer 5: contracts of signs between two that are so or not. Written by an AI agent.
-/
import Derived.Test.YtpighdioomjnmaaDoorValB
import Derived.Deep.DeepCutAuto
import Derived.Deep.RegionWith
import Derived.OpenShut
namespace Go.Proofs.YtpighdioomjnmaaDoor.logic
open Go.RowKit

theorem up_cell {w0 w1 : World} {o : Obj} {b k : Nat} {v : Value} (hb : Below (w0.alloc o).heap.size (w0.alloc o) w1) (hlt : b < w0.heap.size) (hc : w0.cell? ⟨b, k, none⟩ = some v) : w1.cell? ⟨b, k, none⟩ = some v :=
  (hb.cell (p := ⟨b, k, none⟩) (by simp; omega)).trans ((((Below.refl w0.heap.size w0).alloc (Nat.le_refl _) o).cell (p := ⟨b, k, none⟩) hlt).trans hc)
theorem new_cell {w0 w1 : World} {c0 c1 c2 : Value} {t : TypeId} (hb : Below (w0.alloc (.cells #[c0, c1, c2] t)).heap.size (w0.alloc (.cells #[c0, c1, c2] t)) w1) :
    w1.cell? ⟨w0.heap.size, 0, none⟩ = some c0 ∧ w1.cell? ⟨w0.heap.size, 1, none⟩ = some c1 ∧ w1.cell? ⟨w0.heap.size, 2, none⟩ = some c2 :=
  ⟨(hb.cell (p := ⟨w0.heap.size, 0, none⟩) (by simp)).trans (by simp), (hb.cell (p := ⟨w0.heap.size, 1, none⟩) (by simp)).trans (by simp), (hb.cell (p := ⟨w0.heap.size, 2, none⟩) (by simp)).trans (by simp)⟩
theorem up_size {w0 w1 : World} {o : Obj} {b : Nat} (hb : Below (w0.alloc o).heap.size (w0.alloc o) w1) (hlt : b ≤ w0.heap.size) : b < w1.heap.size := by
  have := hb.size
  simp at this
  omega
theorem up_below {W w0 w1 : World} {o : Obj} (hb : Below (w0.alloc o).heap.size (w0.alloc o) w1) (h : Below W.heap.size W w0) : Below W.heap.size W w1 :=
  (h.alloc h.size o).trans (hb.mono (by have := h.size; simp; omega))
theorem at_alloc {w0 : World} {o : Obj} {b k : Nat} {v : Value} (hlt : b < w0.heap.size) (hc : w0.cell? ⟨b, k, none⟩ = some v) : (w0.alloc o).cell? ⟨b, k, none⟩ = some v :=
  (((Below.refl w0.heap.size w0).alloc (Nat.le_refl _) o).cell (p := ⟨b, k, none⟩) hlt).trans hc
theorem at_new {w0 : World} {c0 c1 c2 : Value} {t : TypeId} :
    (w0.alloc (.cells #[c0, c1, c2] t)).cell? ⟨w0.heap.size, 0, none⟩ = some c0 ∧ (w0.alloc (.cells #[c0, c1, c2] t)).cell? ⟨w0.heap.size, 1, none⟩ = some c1 ∧ (w0.alloc (.cells #[c0, c1, c2] t)).cell? ⟨w0.heap.size, 2, none⟩ = some c2 :=
  ⟨by simp, by simp, by simp⟩

theorem kb_alloc {W w : World} {o : Obj} (h : Below W.heap.size W w) : Below W.heap.size W (w.alloc o) := h.alloc h.size o
theorem kb_setCell {W w : World} {p : Addr} {v : Value} (h : Below W.heap.size W w) (hp : W.heap.size ≤ p.block) : Below W.heap.size W (w.setCell p v) := h.setCell hp v

theorem bool_1' (w : World) : Calls Tryd.prog 17 #[.bool true] w fun e w' => e = .returned (.agg #[.int .i64 2, .int .i64 1, .string { data := #[] }]) ∧ Below w.heap.size w w' := bool_any true w
theorem bool_0 (w : World) : Calls Tryd.prog 17 #[.bool false] w fun e w' => e = .returned (.agg #[.int .i64 2, .int .i64 0, .string { data := #[] }]) ∧ Below w.heap.size w w' := bool_any false w
theorem sign_not0 (w : World) :
    Calls Tryd.prog 23 #[.string { data := #[33] }, .agg #[.int .i64 2, .int .i64 0, .string { data := #[] }]] w fun e w' => e = .returned (.agg #[.int .i64 2, .int .i64 1, .string { data := #[] }]) ∧ Below w.heap.size w w' := by
  go_enter Tryd.func23, Tryd.ntmps23
  go_wp2_with (go_at_call 17; refine (bool_1' _).mono ?_; rintro e w1 ⟨rfl, hb1⟩; obtain ⟨hc1, hf1⟩ := bcell hb1; have hz1 := hb1.size)
  exact bodyPost_ret (v := .agg #[.int .i64 2, .int .i64 1, .string { data := #[] }]) (by simp [results, Tryd.results23, go_sem, hc1]) rfl ⟨rfl, ((((((Below.refl _ _).alloc (Nat.le_refl _) _).alloc (by simp) _).trans (hb1.mono (by simp <;> omega))).setCell (by simp <;> omega) _).setCell (by simp <;> omega) _).setCell (by simp <;> omega) _⟩

theorem bool_1 (w : World) : Calls Tryd.prog 17 #[.bool true] w fun e w' => e = .returned (.agg #[.int .i64 2, .int .i64 1, .string { data := #[] }]) ∧ Below w.heap.size w w' := bool_any true w
theorem sign_not1 (w : World) :
    Calls Tryd.prog 23 #[.string { data := #[33] }, .agg #[.int .i64 2, .int .i64 1, .string { data := #[] }]] w fun e w' => e = .returned (.agg #[.int .i64 2, .int .i64 0, .string { data := #[] }]) ∧ Below w.heap.size w w' := by
  go_enter Tryd.func23, Tryd.ntmps23
  go_wp2_with (go_at_call 17; refine (bool_0 _).mono ?_; rintro e w1 ⟨rfl, hb1⟩; obtain ⟨hc1, hf1⟩ := bcell hb1; have hz1 := hb1.size)
  exact bodyPost_ret (v := .agg #[.int .i64 2, .int .i64 0, .string { data := #[] }]) (by simp [results, Tryd.results23, go_sem, hc1]) rfl ⟨rfl, ((((((Below.refl _ _).alloc (Nat.le_refl _) _).alloc (by simp) _).trans (hb1.mono (by simp <;> omega))).setCell (by simp <;> omega) _).setCell (by simp <;> omega) _).setCell (by simp <;> omega) _⟩

theorem bools_or00 (w : World) :
    Calls Tryd.prog 32 #[.string { data := #[124, 124] }, .bool false, .bool false] w fun e w' => e = .returned (.agg #[.int .i64 2, .int .i64 0, .string { data := #[] }]) ∧ Below w.heap.size w w' := by
  go_enter Tryd.func32, Tryd.ntmps32
  go_wp2_with (go_at_call 17; refine (bool_0 _).mono ?_; rintro e w1 ⟨rfl, hb1⟩; obtain ⟨hc1, hf1⟩ := bcell hb1; have hz1 := hb1.size)
  exact bodyPost_ret (v := .agg #[.int .i64 2, .int .i64 0, .string { data := #[] }]) (by simp [results, Tryd.results32, go_sem, hc1]) rfl ⟨rfl, ((((((Below.refl _ _).alloc (Nat.le_refl _) _).trans (hb1.mono (by simp))).setCell (by simp) _).setCell (by simp) _).setCell (by simp) _)⟩
theorem bin_or00 (w : World) :
    Calls Tryd.prog 13 #[.string { data := #[124, 124] }, .agg #[.int .i64 2, .int .i64 0, .string { data := #[] }], .agg #[.int .i64 2, .int .i64 0, .string { data := #[] }]] w fun e w' => e = .returned (.tuple #[.agg #[.int .i64 2, .int .i64 0, .string { data := #[] }], .int .i64 0]) ∧ Below w.heap.size w w' := by
  go_enter Tryd.func13, Tryd.ntmps13
  go_wp2_with (go_at_call 32; refine (bools_or00 _).mono ?_; rintro e w1 ⟨rfl, hb1⟩; obtain ⟨hc1, hf1⟩ := bcell hb1; have hz1 := hb1.size)
  exact bodyPost_ret (v := .tuple #[.agg #[.int .i64 2, .int .i64 0, .string { data := #[] }], .int .i64 0]) (by simp [results, Tryd.results13, go_sem, hc1]) rfl ⟨rfl, (((((((Below.refl _ _).alloc (Nat.le_refl _) _).alloc (by simp) _).alloc (by simp; omega) _).trans (hb1.mono (by simp; omega))).setCell (by simp; omega) _).setCell (by simp; omega) _).setCell (by simp; omega) _⟩

theorem bools_or01 (w : World) :
    Calls Tryd.prog 32 #[.string { data := #[124, 124] }, .bool false, .bool true] w fun e w' => e = .returned (.agg #[.int .i64 2, .int .i64 1, .string { data := #[] }]) ∧ Below w.heap.size w w' := by
  go_enter Tryd.func32, Tryd.ntmps32
  go_wp2_with (go_at_call 17; refine (bool_1 _).mono ?_; rintro e w1 ⟨rfl, hb1⟩; obtain ⟨hc1, hf1⟩ := bcell hb1; have hz1 := hb1.size)
  exact bodyPost_ret (v := .agg #[.int .i64 2, .int .i64 1, .string { data := #[] }]) (by simp [results, Tryd.results32, go_sem, hc1]) rfl ⟨rfl, ((((((Below.refl _ _).alloc (Nat.le_refl _) _).trans (hb1.mono (by simp))).setCell (by simp) _).setCell (by simp) _).setCell (by simp) _)⟩
theorem bin_or01 (w : World) :
    Calls Tryd.prog 13 #[.string { data := #[124, 124] }, .agg #[.int .i64 2, .int .i64 0, .string { data := #[] }], .agg #[.int .i64 2, .int .i64 1, .string { data := #[] }]] w fun e w' => e = .returned (.tuple #[.agg #[.int .i64 2, .int .i64 1, .string { data := #[] }], .int .i64 0]) ∧ Below w.heap.size w w' := by
  go_enter Tryd.func13, Tryd.ntmps13
  go_wp2_with (go_at_call 32; refine (bools_or01 _).mono ?_; rintro e w1 ⟨rfl, hb1⟩; obtain ⟨hc1, hf1⟩ := bcell hb1; have hz1 := hb1.size)
  exact bodyPost_ret (v := .tuple #[.agg #[.int .i64 2, .int .i64 1, .string { data := #[] }], .int .i64 0]) (by simp [results, Tryd.results13, go_sem, hc1]) rfl ⟨rfl, (((((((Below.refl _ _).alloc (Nat.le_refl _) _).alloc (by simp) _).alloc (by simp; omega) _).trans (hb1.mono (by simp; omega))).setCell (by simp; omega) _).setCell (by simp; omega) _).setCell (by simp; omega) _⟩

theorem bools_or10 (w : World) :
    Calls Tryd.prog 32 #[.string { data := #[124, 124] }, .bool true, .bool false] w fun e w' => e = .returned (.agg #[.int .i64 2, .int .i64 1, .string { data := #[] }]) ∧ Below w.heap.size w w' := by
  go_enter Tryd.func32, Tryd.ntmps32
  go_wp2_with (go_at_call 17; refine (bool_1 _).mono ?_; rintro e w1 ⟨rfl, hb1⟩; obtain ⟨hc1, hf1⟩ := bcell hb1; have hz1 := hb1.size)
  exact bodyPost_ret (v := .agg #[.int .i64 2, .int .i64 1, .string { data := #[] }]) (by simp [results, Tryd.results32, go_sem, hc1]) rfl ⟨rfl, ((((((Below.refl _ _).alloc (Nat.le_refl _) _).trans (hb1.mono (by simp))).setCell (by simp) _).setCell (by simp) _).setCell (by simp) _)⟩
theorem bin_or10 (w : World) :
    Calls Tryd.prog 13 #[.string { data := #[124, 124] }, .agg #[.int .i64 2, .int .i64 1, .string { data := #[] }], .agg #[.int .i64 2, .int .i64 0, .string { data := #[] }]] w fun e w' => e = .returned (.tuple #[.agg #[.int .i64 2, .int .i64 1, .string { data := #[] }], .int .i64 0]) ∧ Below w.heap.size w w' := by
  go_enter Tryd.func13, Tryd.ntmps13
  go_wp2_with (go_at_call 32; refine (bools_or10 _).mono ?_; rintro e w1 ⟨rfl, hb1⟩; obtain ⟨hc1, hf1⟩ := bcell hb1; have hz1 := hb1.size)
  exact bodyPost_ret (v := .tuple #[.agg #[.int .i64 2, .int .i64 1, .string { data := #[] }], .int .i64 0]) (by simp [results, Tryd.results13, go_sem, hc1]) rfl ⟨rfl, (((((((Below.refl _ _).alloc (Nat.le_refl _) _).alloc (by simp) _).alloc (by simp; omega) _).trans (hb1.mono (by simp; omega))).setCell (by simp; omega) _).setCell (by simp; omega) _).setCell (by simp; omega) _⟩

theorem bools_or11 (w : World) :
    Calls Tryd.prog 32 #[.string { data := #[124, 124] }, .bool true, .bool true] w fun e w' => e = .returned (.agg #[.int .i64 2, .int .i64 1, .string { data := #[] }]) ∧ Below w.heap.size w w' := by
  go_enter Tryd.func32, Tryd.ntmps32
  go_wp2_with (go_at_call 17; refine (bool_1 _).mono ?_; rintro e w1 ⟨rfl, hb1⟩; obtain ⟨hc1, hf1⟩ := bcell hb1; have hz1 := hb1.size)
  exact bodyPost_ret (v := .agg #[.int .i64 2, .int .i64 1, .string { data := #[] }]) (by simp [results, Tryd.results32, go_sem, hc1]) rfl ⟨rfl, ((((((Below.refl _ _).alloc (Nat.le_refl _) _).trans (hb1.mono (by simp))).setCell (by simp) _).setCell (by simp) _).setCell (by simp) _)⟩
theorem bin_or11 (w : World) :
    Calls Tryd.prog 13 #[.string { data := #[124, 124] }, .agg #[.int .i64 2, .int .i64 1, .string { data := #[] }], .agg #[.int .i64 2, .int .i64 1, .string { data := #[] }]] w fun e w' => e = .returned (.tuple #[.agg #[.int .i64 2, .int .i64 1, .string { data := #[] }], .int .i64 0]) ∧ Below w.heap.size w w' := by
  go_enter Tryd.func13, Tryd.ntmps13
  go_wp2_with (go_at_call 32; refine (bools_or11 _).mono ?_; rintro e w1 ⟨rfl, hb1⟩; obtain ⟨hc1, hf1⟩ := bcell hb1; have hz1 := hb1.size)
  exact bodyPost_ret (v := .tuple #[.agg #[.int .i64 2, .int .i64 1, .string { data := #[] }], .int .i64 0]) (by simp [results, Tryd.results13, go_sem, hc1]) rfl ⟨rfl, (((((((Below.refl _ _).alloc (Nat.le_refl _) _).alloc (by simp) _).alloc (by simp; omega) _).trans (hb1.mono (by simp; omega))).setCell (by simp; omega) _).setCell (by simp; omega) _).setCell (by simp; omega) _⟩

theorem bools_and00 (w : World) :
    Calls Tryd.prog 32 #[.string { data := #[38, 38] }, .bool false, .bool false] w fun e w' => e = .returned (.agg #[.int .i64 2, .int .i64 0, .string { data := #[] }]) ∧ Below w.heap.size w w' := by
  go_enter Tryd.func32, Tryd.ntmps32
  go_wp2_with (go_at_call 17; refine (bool_0 _).mono ?_; rintro e w1 ⟨rfl, hb1⟩; obtain ⟨hc1, hf1⟩ := bcell hb1; have hz1 := hb1.size)
  exact bodyPost_ret (v := .agg #[.int .i64 2, .int .i64 0, .string { data := #[] }]) (by simp [results, Tryd.results32, go_sem, hc1]) rfl ⟨rfl, ((((((Below.refl _ _).alloc (Nat.le_refl _) _).trans (hb1.mono (by simp))).setCell (by simp) _).setCell (by simp) _).setCell (by simp) _)⟩
theorem bin_and00 (w : World) :
    Calls Tryd.prog 13 #[.string { data := #[38, 38] }, .agg #[.int .i64 2, .int .i64 0, .string { data := #[] }], .agg #[.int .i64 2, .int .i64 0, .string { data := #[] }]] w fun e w' => e = .returned (.tuple #[.agg #[.int .i64 2, .int .i64 0, .string { data := #[] }], .int .i64 0]) ∧ Below w.heap.size w w' := by
  go_enter Tryd.func13, Tryd.ntmps13
  go_wp2_with (go_at_call 32; refine (bools_and00 _).mono ?_; rintro e w1 ⟨rfl, hb1⟩; obtain ⟨hc1, hf1⟩ := bcell hb1; have hz1 := hb1.size)
  exact bodyPost_ret (v := .tuple #[.agg #[.int .i64 2, .int .i64 0, .string { data := #[] }], .int .i64 0]) (by simp [results, Tryd.results13, go_sem, hc1]) rfl ⟨rfl, (((((((Below.refl _ _).alloc (Nat.le_refl _) _).alloc (by simp) _).alloc (by simp; omega) _).trans (hb1.mono (by simp; omega))).setCell (by simp; omega) _).setCell (by simp; omega) _).setCell (by simp; omega) _⟩

theorem bools_and01 (w : World) :
    Calls Tryd.prog 32 #[.string { data := #[38, 38] }, .bool false, .bool true] w fun e w' => e = .returned (.agg #[.int .i64 2, .int .i64 0, .string { data := #[] }]) ∧ Below w.heap.size w w' := by
  go_enter Tryd.func32, Tryd.ntmps32
  go_wp2_with (go_at_call 17; refine (bool_0 _).mono ?_; rintro e w1 ⟨rfl, hb1⟩; obtain ⟨hc1, hf1⟩ := bcell hb1; have hz1 := hb1.size)
  exact bodyPost_ret (v := .agg #[.int .i64 2, .int .i64 0, .string { data := #[] }]) (by simp [results, Tryd.results32, go_sem, hc1]) rfl ⟨rfl, ((((((Below.refl _ _).alloc (Nat.le_refl _) _).trans (hb1.mono (by simp))).setCell (by simp) _).setCell (by simp) _).setCell (by simp) _)⟩
theorem bin_and01 (w : World) :
    Calls Tryd.prog 13 #[.string { data := #[38, 38] }, .agg #[.int .i64 2, .int .i64 0, .string { data := #[] }], .agg #[.int .i64 2, .int .i64 1, .string { data := #[] }]] w fun e w' => e = .returned (.tuple #[.agg #[.int .i64 2, .int .i64 0, .string { data := #[] }], .int .i64 0]) ∧ Below w.heap.size w w' := by
  go_enter Tryd.func13, Tryd.ntmps13
  go_wp2_with (go_at_call 32; refine (bools_and01 _).mono ?_; rintro e w1 ⟨rfl, hb1⟩; obtain ⟨hc1, hf1⟩ := bcell hb1; have hz1 := hb1.size)
  exact bodyPost_ret (v := .tuple #[.agg #[.int .i64 2, .int .i64 0, .string { data := #[] }], .int .i64 0]) (by simp [results, Tryd.results13, go_sem, hc1]) rfl ⟨rfl, (((((((Below.refl _ _).alloc (Nat.le_refl _) _).alloc (by simp) _).alloc (by simp; omega) _).trans (hb1.mono (by simp; omega))).setCell (by simp; omega) _).setCell (by simp; omega) _).setCell (by simp; omega) _⟩

theorem bools_and10 (w : World) :
    Calls Tryd.prog 32 #[.string { data := #[38, 38] }, .bool true, .bool false] w fun e w' => e = .returned (.agg #[.int .i64 2, .int .i64 0, .string { data := #[] }]) ∧ Below w.heap.size w w' := by
  go_enter Tryd.func32, Tryd.ntmps32
  go_wp2_with (go_at_call 17; refine (bool_0 _).mono ?_; rintro e w1 ⟨rfl, hb1⟩; obtain ⟨hc1, hf1⟩ := bcell hb1; have hz1 := hb1.size)
  exact bodyPost_ret (v := .agg #[.int .i64 2, .int .i64 0, .string { data := #[] }]) (by simp [results, Tryd.results32, go_sem, hc1]) rfl ⟨rfl, ((((((Below.refl _ _).alloc (Nat.le_refl _) _).trans (hb1.mono (by simp))).setCell (by simp) _).setCell (by simp) _).setCell (by simp) _)⟩
theorem bin_and10 (w : World) :
    Calls Tryd.prog 13 #[.string { data := #[38, 38] }, .agg #[.int .i64 2, .int .i64 1, .string { data := #[] }], .agg #[.int .i64 2, .int .i64 0, .string { data := #[] }]] w fun e w' => e = .returned (.tuple #[.agg #[.int .i64 2, .int .i64 0, .string { data := #[] }], .int .i64 0]) ∧ Below w.heap.size w w' := by
  go_enter Tryd.func13, Tryd.ntmps13
  go_wp2_with (go_at_call 32; refine (bools_and10 _).mono ?_; rintro e w1 ⟨rfl, hb1⟩; obtain ⟨hc1, hf1⟩ := bcell hb1; have hz1 := hb1.size)
  exact bodyPost_ret (v := .tuple #[.agg #[.int .i64 2, .int .i64 0, .string { data := #[] }], .int .i64 0]) (by simp [results, Tryd.results13, go_sem, hc1]) rfl ⟨rfl, (((((((Below.refl _ _).alloc (Nat.le_refl _) _).alloc (by simp) _).alloc (by simp; omega) _).trans (hb1.mono (by simp; omega))).setCell (by simp; omega) _).setCell (by simp; omega) _).setCell (by simp; omega) _⟩

theorem bools_and11 (w : World) :
    Calls Tryd.prog 32 #[.string { data := #[38, 38] }, .bool true, .bool true] w fun e w' => e = .returned (.agg #[.int .i64 2, .int .i64 1, .string { data := #[] }]) ∧ Below w.heap.size w w' := by
  go_enter Tryd.func32, Tryd.ntmps32
  go_wp2_with (go_at_call 17; refine (bool_1 _).mono ?_; rintro e w1 ⟨rfl, hb1⟩; obtain ⟨hc1, hf1⟩ := bcell hb1; have hz1 := hb1.size)
  exact bodyPost_ret (v := .agg #[.int .i64 2, .int .i64 1, .string { data := #[] }]) (by simp [results, Tryd.results32, go_sem, hc1]) rfl ⟨rfl, ((((((Below.refl _ _).alloc (Nat.le_refl _) _).trans (hb1.mono (by simp))).setCell (by simp) _).setCell (by simp) _).setCell (by simp) _)⟩
theorem bin_and11 (w : World) :
    Calls Tryd.prog 13 #[.string { data := #[38, 38] }, .agg #[.int .i64 2, .int .i64 1, .string { data := #[] }], .agg #[.int .i64 2, .int .i64 1, .string { data := #[] }]] w fun e w' => e = .returned (.tuple #[.agg #[.int .i64 2, .int .i64 1, .string { data := #[] }], .int .i64 0]) ∧ Below w.heap.size w w' := by
  go_enter Tryd.func13, Tryd.ntmps13
  go_wp2_with (go_at_call 32; refine (bools_and11 _).mono ?_; rintro e w1 ⟨rfl, hb1⟩; obtain ⟨hc1, hf1⟩ := bcell hb1; have hz1 := hb1.size)
  exact bodyPost_ret (v := .tuple #[.agg #[.int .i64 2, .int .i64 1, .string { data := #[] }], .int .i64 0]) (by simp [results, Tryd.results13, go_sem, hc1]) rfl ⟨rfl, (((((((Below.refl _ _).alloc (Nat.le_refl _) _).alloc (by simp) _).alloc (by simp; omega) _).trans (hb1.mono (by simp; omega))).setCell (by simp; omega) _).setCell (by simp; omega) _).setCell (by simp; omega) _⟩
theorem new_frozen {w0 : World} {c0 c1 c2 : Value} {t : TypeId} (k : Nat) : (w0.alloc (.cells #[c0, c1, c2] t)).frozen? ⟨w0.heap.size, k, none⟩ = false := by simp
theorem new_size {w0 : World} {o : Obj} : w0.heap.size < (w0.alloc o).heap.size := by simp
end Go.Proofs.YtpighdioomjnmaaDoor.logic
