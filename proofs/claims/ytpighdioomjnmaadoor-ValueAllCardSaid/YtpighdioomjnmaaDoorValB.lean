/-
  Layer 5: the contract of furcatelaw05.shown. Written by an AI agent.
-/
import Derived.Test.YtpighdioomjnmaaDoorValA
import Derived.Deep.RegionHeld3
import Derived.Lib.Hide
namespace Go.Proofs.YtpighdioomjnmaaDoor
open Go.RowKit

set_option maxHeartbeats 400000 in
theorem num_quo (a b : Int) (h1 : ¬ b = 0) (w : World) :
    Calls Tryd.prog 31 #[.string { data := #[47] }, .int .i64 a, .int .i64 b] w fun e w' => e = .returned (.tuple #[.agg #[.int .i64 1, .int .i64 (wrap64 (a.tdiv b)), .string { data := #[] }], .int .i64 0]) ∧ Below w.heap.size w w' := by
  have h0 : (b == 0) = false := by simpa using h1
  go_enter Tryd.func31, Tryd.ntmps31
  go_wp2_with (go_at_call 15; refine (int_any _ _).mono ?_; rintro e w1 ⟨rfl, hb1⟩; obtain ⟨hc1, hf1⟩ := bcell hb1; have hz1 := hb1.size)
  exact bodyPost_ret (v := .tuple #[.agg #[.int .i64 1, .int .i64 (wrap64 (a.tdiv b)), .string { data := #[] }], .int .i64 0]) (by simp [results, Tryd.results31, go_sem, hc1]) rfl ⟨rfl, ((((((Below.refl _ _).alloc (Nat.le_refl _) _).trans (hb1.mono (by simp))).setCell (by simp) _).setCell (by simp) _).setCell (by simp) _)⟩

set_option maxHeartbeats 400000 in
theorem bin_quo (a b : Int) (h1 : ¬ b = 0) (w : World) :
    Calls Tryd.prog 13 #[.string { data := #[47] }, .agg #[.int .i64 1, .int .i64 a, .string { data := #[] }], .agg #[.int .i64 1, .int .i64 b, .string { data := #[] }]] w fun e w' => e = .returned (.tuple #[.agg #[.int .i64 1, .int .i64 (wrap64 (a.tdiv b)), .string { data := #[] }], .int .i64 0]) ∧ Below w.heap.size w w' := by
  go_enter Tryd.func13, Tryd.ntmps13
  go_wp2_with (go_at_call 31; refine (num_quo _ _ h1 _).mono ?_; rintro e w1 ⟨rfl, hb1⟩; obtain ⟨hc1, hf1⟩ := bcell hb1; have hz1 := hb1.size)
  exact bodyPost_ret (v := .tuple #[.agg #[.int .i64 1, .int .i64 (wrap64 (a.tdiv b)), .string { data := #[] }], .int .i64 0]) (by simp [results, Tryd.results13, go_sem, hc1]) rfl ⟨rfl, (((((((Below.refl _ _).alloc (Nat.le_refl _) _).alloc (by simp) _).alloc (by simp; omega) _).trans (hb1.mono (by simp; omega))).setCell (by simp; omega) _).setCell (by simp; omega) _).setCell (by simp; omega) _⟩

set_option maxHeartbeats 400000 in
theorem num_rem (a b : Int) (h1 : ¬ b = 0) (w : World) :
    Calls Tryd.prog 31 #[.string { data := #[37] }, .int .i64 a, .int .i64 b] w fun e w' => e = .returned (.tuple #[.agg #[.int .i64 1, .int .i64 (a.tmod b), .string { data := #[] }], .int .i64 0]) ∧ Below w.heap.size w w' := by
  have h0 : (b == 0) = false := by simpa using h1
  go_enter Tryd.func31, Tryd.ntmps31
  go_wp2_with (go_at_call 15; refine (int_any _ _).mono ?_; rintro e w1 ⟨rfl, hb1⟩; obtain ⟨hc1, hf1⟩ := bcell hb1; have hz1 := hb1.size)
  exact bodyPost_ret (v := .tuple #[.agg #[.int .i64 1, .int .i64 (a.tmod b), .string { data := #[] }], .int .i64 0]) (by simp [results, Tryd.results31, go_sem, hc1]) rfl ⟨rfl, ((((((Below.refl _ _).alloc (Nat.le_refl _) _).trans (hb1.mono (by simp))).setCell (by simp) _).setCell (by simp) _).setCell (by simp) _)⟩

set_option maxHeartbeats 400000 in
theorem bin_rem (a b : Int) (h1 : ¬ b = 0) (w : World) :
    Calls Tryd.prog 13 #[.string { data := #[37] }, .agg #[.int .i64 1, .int .i64 a, .string { data := #[] }], .agg #[.int .i64 1, .int .i64 b, .string { data := #[] }]] w fun e w' => e = .returned (.tuple #[.agg #[.int .i64 1, .int .i64 (a.tmod b), .string { data := #[] }], .int .i64 0]) ∧ Below w.heap.size w w' := by
  go_enter Tryd.func13, Tryd.ntmps13
  go_wp2_with (go_at_call 31; refine (num_rem _ _ h1 _).mono ?_; rintro e w1 ⟨rfl, hb1⟩; obtain ⟨hc1, hf1⟩ := bcell hb1; have hz1 := hb1.size)
  exact bodyPost_ret (v := .tuple #[.agg #[.int .i64 1, .int .i64 (a.tmod b), .string { data := #[] }], .int .i64 0]) (by simp [results, Tryd.results13, go_sem, hc1]) rfl ⟨rfl, (((((((Below.refl _ _).alloc (Nat.le_refl _) _).alloc (by simp) _).alloc (by simp; omega) _).trans (hb1.mono (by simp; omega))).setCell (by simp; omega) _).setCell (by simp; omega) _).setCell (by simp; omega) _⟩

set_option maxHeartbeats 400000 in
theorem word_true (w : World) :
    Calls Tryd.prog 27 #[.agg #[.int .i64 2, .int .i64 1, .string { data := #[] }]] w fun e w' => e = .returned (.string { data := #[116, 114, 117, 101] }) ∧ Below w.heap.size w w' := by
  go_enter Tryd.func27, Tryd.ntmps27
  go_wp2
  go_ret
  exact ⟨rfl, (Below.refl _ _).alloc (Nat.le_refl _) _⟩

theorem bool_true (w : World) :
    Calls Tryd.prog 17 #[.bool true] w fun e w' => e = .returned (.agg #[.int .i64 2, .int .i64 1, .string { data := #[] }]) ∧ Below w.heap.size w w' := bool_any true w
theorem keep_below {W w1 w2 : World} (h : Below W.heap.size W w1) (h2 : Below w1.heap.size w1 w2) : Below W.heap.size W w2 := h.trans (h2.mono h.size)
theorem keep_cell {W w1 : World} {b o : Nat} {v : Value} (h : Below W.heap.size W w1) (hlt : b < W.heap.size) (hc : W.cell? ⟨b, o, none⟩ = some v) : w1.cell? ⟨b, o, none⟩ = some v := (h.cell (p := ⟨b, o, none⟩) hlt).trans hc

set_option maxHeartbeats 1000000 in
theorem shown_any (w : World) :
    Calls Tryd.prog 10 #[] w fun e w' => e = .returned (.bool true) ∧ Below w.heap.size w w' := by
  go_enter Tryd.func10, Tryd.ntmps10
  go_wp2_with fail
  refine (int_any _ _).mono ?_
  rintro e w1 ⟨rfl, hb1⟩
  obtain ⟨hc1, hf1⟩ := bcell hb1
  go_wp2_with fail
  refine (int_any _ _).mono ?_
  rintro e w2 ⟨rfl, hb2⟩
  obtain ⟨hc2, hf2⟩ := bcell hb2
  go_wp2_with fail
  refine (bin_quo _ _ (by decide) _).mono ?_
  rintro e w3 ⟨rfl, hb3⟩
  obtain ⟨hc3, hf3⟩ := bcell hb3
  have hq : wrap64 (Int.tdiv (-7) 2) = -3 := by simp [wrap64]
  rw [hq]
  go_wp2_with fail
  obtain ⟨W, hW⟩ : ∃ W : World, W = w3.alloc (.cells #[.int .i64 1, .int .i64 (-3), .string { data := #[] }] 23) := ⟨_, rfl⟩
  have k0 : W.cell? ⟨w3.heap.size, 0, none⟩ = some (.int .i64 1) := by rw [hW]; simp
  have k1 : W.cell? ⟨w3.heap.size, 1, none⟩ = some (.int .i64 (-3)) := by rw [hW]; simp
  have k2 : W.cell? ⟨w3.heap.size, 2, none⟩ = some (.string { data := #[] }) := by rw [hW]; simp
  have klt : w3.heap.size < W.heap.size := by rw [hW]; simp
  have kB : Below w.heap.size w W := by rw [hW]; exact ((hb1.trans (hb2.mono hb1.size)).trans (hb3.mono (Nat.le_trans hb1.size hb2.size))).alloc (Nat.le_trans hb1.size (Nat.le_trans hb2.size hb3.size)) _
  rw [← hW]
  clear hW hc1 hf1 hc2 hf2 hc3 hf3 hb1 hb2 hb3 hq
  have kk := Below.refl W.heap.size W
  have hfld : ∀ (W' : World), (Instr.field 23 (.agg #[.int .i64 1, .int .i64 2, .string { data := #[] }]) 1).run Tryd.prog W' = .ok (.int .i64 2) W' := fun _ => by kernel_rfl
  have mk : ∀ w' : World, Below W.heap.size W w' → (w'.cell? ⟨w3.heap.size, 0, none⟩ = some (.int .i64 1) ∧ w'.cell? ⟨w3.heap.size, 1, none⟩ = some (.int .i64 (-3)) ∧ w'.cell? ⟨w3.heap.size, 2, none⟩ = some (.string { data := #[] }) ∧ Below W.heap.size W w') :=
    fun w' h => ⟨keep_cell h klt k0, keep_cell h klt k1, keep_cell h klt k2, h⟩
  clear k0 k1 k2
  have MK := Lib.hid mk
  clear mk
  go_region_held3 (fun w' => w'.cell? ⟨w3.heap.size, 0, none⟩ = some (.int .i64 1) ∧ w'.cell? ⟨w3.heap.size, 1, none⟩ = some (.int .i64 (-3)) ∧ w'.cell? ⟨w3.heap.size, 2, none⟩ = some (.string { data := #[] }) ∧ Below W.heap.size W w')
    (first | exact MK.out _ (Below.refl _ _) | (go_split_ands; exact MK.out _ (keep_below (by assumption) hb4)) | (go_split_ands; exact MK.out _ (keep_below (Below.drew (by assumption)) hb4)) | (go_split_ands; exact MK.out _ (Below.drew (by assumption))) | (go_split_ands; exact MK.out _ (by assumption)) | exact MK.out _ (Below.drew (by assumption)) | exact MK.out _ (by assumption) | exact MK.out _ (keep_below (by assumption) (by assumption)) | exact MK.out _ (keep_below (Below.drew (by assumption)) (by assumption)) | exact MK.out _ (Below.drew (keep_below (by assumption) (by assumption))))
    (first | (go_at_call 15; refine (int_any _ _).mono ?_; rintro e w4 ⟨rfl, hb4⟩) | (go_at_call 17; refine (bool_true _).mono ?_; rintro e w4 ⟨rfl, hb4⟩) | (go_at_call 27; refine (word_true _).mono ?_; rintro e w4 ⟨rfl, hb4⟩))
  obtain ⟨_, _, _, hF⟩ := (by assumption : _ ∧ _ ∧ _ ∧ Below W.heap.size W w4)
  go_wp2
  go_ret
  exact ⟨rfl, kB.trans (hF.mono kB.size)⟩
end Go.Proofs.YtpighdioomjnmaaDoor
