/-
  Layer 5: contracts of Bin for whatever values. Written by an AI agent.
-/
import Derived.Test.YtpighdioomjnmaaDoorAllA
import Derived.IntWalk
namespace Go.Proofs.YtpighdioomjnmaaDoor.textsof
open Go.RowKit Go.Proofs.YtpighdioomjnmaaDoor.logic
set_option linter.unusedVariables false
set_option linter.unusedSimpArgs false

set_option maxHeartbeats 400000 in
theorem cbin1_add (a b : Int) (s u : ByteArray) (w : World) :
    Calls Tryd.prog 13 #[.string { data := #[43] }, .agg #[.int .i64 1, .int .i64 a, .string s], .agg #[.int .i64 1, .int .i64 b, .string u]] w fun e w' => e = .returned (.tuple #[.agg #[.int .i64 1, .int .i64 (wrap64 (a + b)), .string { data := #[] }], .int .i64 0]) ∧ Below w.heap.size w w' := by
  go_enter Tryd.func13, Tryd.ntmps13
  go_wp2_with ((go_at_call 31; refine (num_add _ _ _).mono ?_; rintro e w1 ⟨rfl, hb1⟩; obtain ⟨hc1, hf1⟩ := bcell hb1; have hz1 := hb1.size))
  exact bodyPost_ret (v := .tuple #[.agg #[.int .i64 1, .int .i64 (wrap64 (a + b)), .string { data := #[] }], .int .i64 0]) (by simp [results, Tryd.results13, go_sem, hc1]) rfl ⟨rfl, (by repeat (first | exact Below.refl _ _ | (refine kb_setCell ?_ (by first | (simp; done) | (simp <;> omega))) | apply kb_alloc | (refine keep_below ?_ hb1) | (refine keep_below ?_ hb2)))⟩

set_option maxHeartbeats 400000 in
theorem cbin1_sub (a b : Int) (s u : ByteArray) (w : World) :
    Calls Tryd.prog 13 #[.string { data := #[45] }, .agg #[.int .i64 1, .int .i64 a, .string s], .agg #[.int .i64 1, .int .i64 b, .string u]] w fun e w' => e = .returned (.tuple #[.agg #[.int .i64 1, .int .i64 (wrap64 (a - b)), .string { data := #[] }], .int .i64 0]) ∧ Below w.heap.size w w' := by
  go_enter Tryd.func13, Tryd.ntmps13
  go_wp2_with ((go_at_call 31; refine (num_sub _ _ _).mono ?_; rintro e w1 ⟨rfl, hb1⟩; obtain ⟨hc1, hf1⟩ := bcell hb1; have hz1 := hb1.size))
  exact bodyPost_ret (v := .tuple #[.agg #[.int .i64 1, .int .i64 (wrap64 (a - b)), .string { data := #[] }], .int .i64 0]) (by simp [results, Tryd.results13, go_sem, hc1]) rfl ⟨rfl, (by repeat (first | exact Below.refl _ _ | (refine kb_setCell ?_ (by first | (simp; done) | (simp <;> omega))) | apply kb_alloc | (refine keep_below ?_ hb1) | (refine keep_below ?_ hb2)))⟩

set_option maxHeartbeats 400000 in
theorem cbin1_mul (a b : Int) (s u : ByteArray) (w : World) :
    Calls Tryd.prog 13 #[.string { data := #[42] }, .agg #[.int .i64 1, .int .i64 a, .string s], .agg #[.int .i64 1, .int .i64 b, .string u]] w fun e w' => e = .returned (.tuple #[.agg #[.int .i64 1, .int .i64 (wrap64 (a * b)), .string { data := #[] }], .int .i64 0]) ∧ Below w.heap.size w w' := by
  go_enter Tryd.func13, Tryd.ntmps13
  go_wp2_with ((go_at_call 31; refine (num_mul _ _ _).mono ?_; rintro e w1 ⟨rfl, hb1⟩; obtain ⟨hc1, hf1⟩ := bcell hb1; have hz1 := hb1.size))
  exact bodyPost_ret (v := .tuple #[.agg #[.int .i64 1, .int .i64 (wrap64 (a * b)), .string { data := #[] }], .int .i64 0]) (by simp [results, Tryd.results13, go_sem, hc1]) rfl ⟨rfl, (by repeat (first | exact Below.refl _ _ | (refine kb_setCell ?_ (by first | (simp; done) | (simp <;> omega))) | apply kb_alloc | (refine keep_below ?_ hb1) | (refine keep_below ?_ hb2)))⟩

set_option maxHeartbeats 400000 in
theorem cbin1_lss (a b : Int) (s u : ByteArray) (w : World) :
    Calls Tryd.prog 13 #[.string { data := #[60] }, .agg #[.int .i64 1, .int .i64 a, .string s], .agg #[.int .i64 1, .int .i64 b, .string u]] w fun e w' => e = .returned (.tuple #[.agg #[.int .i64 2, .int .i64 (bN (decide (a < b))), .string { data := #[] }], .int .i64 0]) ∧ Below w.heap.size w w' := by
  go_enter Tryd.func13, Tryd.ntmps13
  go_wp2_with ((go_at_call 31; refine (num_lss _ _ _).mono ?_; rintro e w1 ⟨rfl, hb1⟩; obtain ⟨hc1, hf1⟩ := bcell hb1; have hz1 := hb1.size))
  exact bodyPost_ret (v := .tuple #[.agg #[.int .i64 2, .int .i64 (bN (decide (a < b))), .string { data := #[] }], .int .i64 0]) (by simp [results, Tryd.results13, go_sem, hc1]) rfl ⟨rfl, (by repeat (first | exact Below.refl _ _ | (refine kb_setCell ?_ (by first | (simp; done) | (simp <;> omega))) | apply kb_alloc | (refine keep_below ?_ hb1) | (refine keep_below ?_ hb2)))⟩

set_option maxHeartbeats 400000 in
theorem cbin1_leq (a b : Int) (s u : ByteArray) (w : World) :
    Calls Tryd.prog 13 #[.string { data := #[60, 61] }, .agg #[.int .i64 1, .int .i64 a, .string s], .agg #[.int .i64 1, .int .i64 b, .string u]] w fun e w' => e = .returned (.tuple #[.agg #[.int .i64 2, .int .i64 (bN (decide (a ≤ b))), .string { data := #[] }], .int .i64 0]) ∧ Below w.heap.size w w' := by
  go_enter Tryd.func13, Tryd.ntmps13
  go_wp2_with ((go_at_call 31; refine (num_leq _ _ _).mono ?_; rintro e w1 ⟨rfl, hb1⟩; obtain ⟨hc1, hf1⟩ := bcell hb1; have hz1 := hb1.size))
  exact bodyPost_ret (v := .tuple #[.agg #[.int .i64 2, .int .i64 (bN (decide (a ≤ b))), .string { data := #[] }], .int .i64 0]) (by simp [results, Tryd.results13, go_sem, hc1]) rfl ⟨rfl, (by repeat (first | exact Below.refl _ _ | (refine kb_setCell ?_ (by first | (simp; done) | (simp <;> omega))) | apply kb_alloc | (refine keep_below ?_ hb1) | (refine keep_below ?_ hb2)))⟩

set_option maxHeartbeats 400000 in
theorem cbin1_quo (a b : Int) (s u : ByteArray) (h1 : ¬ b = 0) (w : World) :
    Calls Tryd.prog 13 #[.string { data := #[47] }, .agg #[.int .i64 1, .int .i64 a, .string s], .agg #[.int .i64 1, .int .i64 b, .string u]] w fun e w' => e = .returned (.tuple #[.agg #[.int .i64 1, .int .i64 (wrap64 (a.tdiv b)), .string { data := #[] }], .int .i64 0]) ∧ Below w.heap.size w w' := by
  go_enter Tryd.func13, Tryd.ntmps13
  go_wp2_with ((go_at_call 31; refine (num_quo _ _ h1 _).mono ?_; rintro e w1 ⟨rfl, hb1⟩; obtain ⟨hc1, hf1⟩ := bcell hb1; have hz1 := hb1.size))
  exact bodyPost_ret (v := .tuple #[.agg #[.int .i64 1, .int .i64 (wrap64 (a.tdiv b)), .string { data := #[] }], .int .i64 0]) (by simp [results, Tryd.results13, go_sem, hc1]) rfl ⟨rfl, (by repeat (first | exact Below.refl _ _ | (refine kb_setCell ?_ (by first | (simp; done) | (simp <;> omega))) | apply kb_alloc | (refine keep_below ?_ hb1) | (refine keep_below ?_ hb2)))⟩

set_option maxHeartbeats 400000 in
theorem cbin1_rem (a b : Int) (s u : ByteArray) (h1 : ¬ b = 0) (w : World) :
    Calls Tryd.prog 13 #[.string { data := #[37] }, .agg #[.int .i64 1, .int .i64 a, .string s], .agg #[.int .i64 1, .int .i64 b, .string u]] w fun e w' => e = .returned (.tuple #[.agg #[.int .i64 1, .int .i64 (a.tmod b), .string { data := #[] }], .int .i64 0]) ∧ Below w.heap.size w w' := by
  go_enter Tryd.func13, Tryd.ntmps13
  go_wp2_with ((go_at_call 31; refine (num_rem _ _ h1 _).mono ?_; rintro e w1 ⟨rfl, hb1⟩; obtain ⟨hc1, hf1⟩ := bcell hb1; have hz1 := hb1.size))
  exact bodyPost_ret (v := .tuple #[.agg #[.int .i64 1, .int .i64 (a.tmod b), .string { data := #[] }], .int .i64 0]) (by simp [results, Tryd.results13, go_sem, hc1]) rfl ⟨rfl, (by repeat (first | exact Below.refl _ _ | (refine kb_setCell ?_ (by first | (simp; done) | (simp <;> omega))) | apply kb_alloc | (refine keep_below ?_ hb1) | (refine keep_below ?_ hb2)))⟩

set_option maxHeartbeats 400000 in
theorem cbin1_quo0 (a : Int) (s u : ByteArray) (w : World) :
    Calls Tryd.prog 13 #[.string { data := #[47] }, .agg #[.int .i64 1, .int .i64 a, .string s], .agg #[.int .i64 1, .int .i64 0, .string u]] w fun e w' => e = .returned (.tuple #[.agg #[.int .i64 0, .int .i64 0, .string { data := #[] }], .int .i64 1]) ∧ Below w.heap.size w w' := by
  go_enter Tryd.func13, Tryd.ntmps13
  go_wp2_with ((go_at_call 31; refine (divides.num_quo0 _ _).mono ?_; rintro e w1 ⟨rfl, hb1⟩; obtain ⟨hc1, hf1⟩ := bcell hb1; have hz1 := hb1.size))
  exact bodyPost_ret (v := .tuple #[.agg #[.int .i64 0, .int .i64 0, .string { data := #[] }], .int .i64 1]) (by simp [results, Tryd.results13, go_sem, hc1]) rfl ⟨rfl, (by repeat (first | exact Below.refl _ _ | (refine kb_setCell ?_ (by first | (simp; done) | (simp <;> omega))) | apply kb_alloc | (refine keep_below ?_ hb1) | (refine keep_below ?_ hb2)))⟩

set_option maxHeartbeats 400000 in
theorem cbin1_rem0 (a : Int) (s u : ByteArray) (w : World) :
    Calls Tryd.prog 13 #[.string { data := #[37] }, .agg #[.int .i64 1, .int .i64 a, .string s], .agg #[.int .i64 1, .int .i64 0, .string u]] w fun e w' => e = .returned (.tuple #[.agg #[.int .i64 0, .int .i64 0, .string { data := #[] }], .int .i64 1]) ∧ Below w.heap.size w w' := by
  go_enter Tryd.func13, Tryd.ntmps13
  go_wp2_with ((go_at_call 31; refine (divides.num_rem0 _ _).mono ?_; rintro e w1 ⟨rfl, hb1⟩; obtain ⟨hc1, hf1⟩ := bcell hb1; have hz1 := hb1.size))
  exact bodyPost_ret (v := .tuple #[.agg #[.int .i64 0, .int .i64 0, .string { data := #[] }], .int .i64 1]) (by simp [results, Tryd.results13, go_sem, hc1]) rfl ⟨rfl, (by repeat (first | exact Below.refl _ _ | (refine kb_setCell ?_ (by first | (simp; done) | (simp <;> omega))) | apply kb_alloc | (refine keep_below ?_ hb1) | (refine keep_below ?_ hb2)))⟩

set_option maxHeartbeats 400000 in
theorem cbin2_or00 (a b : Int) (s u : ByteArray) (ha : ¬ a = 1) (hb : ¬ b = 1) (w : World) :
    Calls Tryd.prog 13 #[.string { data := #[124, 124] }, .agg #[.int .i64 2, .int .i64 a, .string s], .agg #[.int .i64 2, .int .i64 b, .string u]] w fun e w' => e = .returned (.tuple #[.agg #[.int .i64 2, .int .i64 0, .string { data := #[] }], .int .i64 0]) ∧ Below w.heap.size w w' := by
  have ha' : (a == 1) = false := by simpa using ha
  have hb' : (b == 1) = false := by simpa using hb
  go_enter Tryd.func13, Tryd.ntmps13
  go_wp2_with ((go_at_call 32; refine (bools_or00 _).mono ?_; rintro e w1 ⟨rfl, hb1⟩; obtain ⟨hc1, hf1⟩ := bcell hb1; have hz1 := hb1.size))
  exact bodyPost_ret (v := .tuple #[.agg #[.int .i64 2, .int .i64 0, .string { data := #[] }], .int .i64 0]) (by simp [results, Tryd.results13, go_sem, hc1]) rfl ⟨rfl, (by repeat (first | exact Below.refl _ _ | (refine kb_setCell ?_ (by first | (simp; done) | (simp <;> omega))) | apply kb_alloc | (refine keep_below ?_ hb1) | (refine keep_below ?_ hb2)))⟩

set_option maxHeartbeats 400000 in
theorem cbin2_or01 (a : Int) (s u : ByteArray) (ha : ¬ a = 1) (w : World) :
    Calls Tryd.prog 13 #[.string { data := #[124, 124] }, .agg #[.int .i64 2, .int .i64 a, .string s], .agg #[.int .i64 2, .int .i64 1, .string u]] w fun e w' => e = .returned (.tuple #[.agg #[.int .i64 2, .int .i64 1, .string { data := #[] }], .int .i64 0]) ∧ Below w.heap.size w w' := by
  have ha' : (a == 1) = false := by simpa using ha
  go_enter Tryd.func13, Tryd.ntmps13
  go_wp2_with ((go_at_call 32; refine (bools_or01 _).mono ?_; rintro e w1 ⟨rfl, hb1⟩; obtain ⟨hc1, hf1⟩ := bcell hb1; have hz1 := hb1.size))
  exact bodyPost_ret (v := .tuple #[.agg #[.int .i64 2, .int .i64 1, .string { data := #[] }], .int .i64 0]) (by simp [results, Tryd.results13, go_sem, hc1]) rfl ⟨rfl, (by repeat (first | exact Below.refl _ _ | (refine kb_setCell ?_ (by first | (simp; done) | (simp <;> omega))) | apply kb_alloc | (refine keep_below ?_ hb1) | (refine keep_below ?_ hb2)))⟩

set_option maxHeartbeats 400000 in
theorem cbin2_or10 (b : Int) (s u : ByteArray) (hb : ¬ b = 1) (w : World) :
    Calls Tryd.prog 13 #[.string { data := #[124, 124] }, .agg #[.int .i64 2, .int .i64 1, .string s], .agg #[.int .i64 2, .int .i64 b, .string u]] w fun e w' => e = .returned (.tuple #[.agg #[.int .i64 2, .int .i64 1, .string { data := #[] }], .int .i64 0]) ∧ Below w.heap.size w w' := by
  have hb' : (b == 1) = false := by simpa using hb
  go_enter Tryd.func13, Tryd.ntmps13
  go_wp2_with ((go_at_call 32; refine (bools_or10 _).mono ?_; rintro e w1 ⟨rfl, hb1⟩; obtain ⟨hc1, hf1⟩ := bcell hb1; have hz1 := hb1.size))
  exact bodyPost_ret (v := .tuple #[.agg #[.int .i64 2, .int .i64 1, .string { data := #[] }], .int .i64 0]) (by simp [results, Tryd.results13, go_sem, hc1]) rfl ⟨rfl, (by repeat (first | exact Below.refl _ _ | (refine kb_setCell ?_ (by first | (simp; done) | (simp <;> omega))) | apply kb_alloc | (refine keep_below ?_ hb1) | (refine keep_below ?_ hb2)))⟩

set_option maxHeartbeats 400000 in
theorem cbin2_or11 (s u : ByteArray) (w : World) :
    Calls Tryd.prog 13 #[.string { data := #[124, 124] }, .agg #[.int .i64 2, .int .i64 1, .string s], .agg #[.int .i64 2, .int .i64 1, .string u]] w fun e w' => e = .returned (.tuple #[.agg #[.int .i64 2, .int .i64 1, .string { data := #[] }], .int .i64 0]) ∧ Below w.heap.size w w' := by
  go_enter Tryd.func13, Tryd.ntmps13
  go_wp2_with ((go_at_call 32; refine (bools_or11 _).mono ?_; rintro e w1 ⟨rfl, hb1⟩; obtain ⟨hc1, hf1⟩ := bcell hb1; have hz1 := hb1.size))
  exact bodyPost_ret (v := .tuple #[.agg #[.int .i64 2, .int .i64 1, .string { data := #[] }], .int .i64 0]) (by simp [results, Tryd.results13, go_sem, hc1]) rfl ⟨rfl, (by repeat (first | exact Below.refl _ _ | (refine kb_setCell ?_ (by first | (simp; done) | (simp <;> omega))) | apply kb_alloc | (refine keep_below ?_ hb1) | (refine keep_below ?_ hb2)))⟩

set_option maxHeartbeats 400000 in
theorem cbin2_and00 (a b : Int) (s u : ByteArray) (ha : ¬ a = 1) (hb : ¬ b = 1) (w : World) :
    Calls Tryd.prog 13 #[.string { data := #[38, 38] }, .agg #[.int .i64 2, .int .i64 a, .string s], .agg #[.int .i64 2, .int .i64 b, .string u]] w fun e w' => e = .returned (.tuple #[.agg #[.int .i64 2, .int .i64 0, .string { data := #[] }], .int .i64 0]) ∧ Below w.heap.size w w' := by
  have ha' : (a == 1) = false := by simpa using ha
  have hb' : (b == 1) = false := by simpa using hb
  go_enter Tryd.func13, Tryd.ntmps13
  go_wp2_with ((go_at_call 32; refine (bools_and00 _).mono ?_; rintro e w1 ⟨rfl, hb1⟩; obtain ⟨hc1, hf1⟩ := bcell hb1; have hz1 := hb1.size))
  exact bodyPost_ret (v := .tuple #[.agg #[.int .i64 2, .int .i64 0, .string { data := #[] }], .int .i64 0]) (by simp [results, Tryd.results13, go_sem, hc1]) rfl ⟨rfl, (by repeat (first | exact Below.refl _ _ | (refine kb_setCell ?_ (by first | (simp; done) | (simp <;> omega))) | apply kb_alloc | (refine keep_below ?_ hb1) | (refine keep_below ?_ hb2)))⟩

set_option maxHeartbeats 400000 in
theorem cbin2_and01 (a : Int) (s u : ByteArray) (ha : ¬ a = 1) (w : World) :
    Calls Tryd.prog 13 #[.string { data := #[38, 38] }, .agg #[.int .i64 2, .int .i64 a, .string s], .agg #[.int .i64 2, .int .i64 1, .string u]] w fun e w' => e = .returned (.tuple #[.agg #[.int .i64 2, .int .i64 0, .string { data := #[] }], .int .i64 0]) ∧ Below w.heap.size w w' := by
  have ha' : (a == 1) = false := by simpa using ha
  go_enter Tryd.func13, Tryd.ntmps13
  go_wp2_with ((go_at_call 32; refine (bools_and01 _).mono ?_; rintro e w1 ⟨rfl, hb1⟩; obtain ⟨hc1, hf1⟩ := bcell hb1; have hz1 := hb1.size))
  exact bodyPost_ret (v := .tuple #[.agg #[.int .i64 2, .int .i64 0, .string { data := #[] }], .int .i64 0]) (by simp [results, Tryd.results13, go_sem, hc1]) rfl ⟨rfl, (by repeat (first | exact Below.refl _ _ | (refine kb_setCell ?_ (by first | (simp; done) | (simp <;> omega))) | apply kb_alloc | (refine keep_below ?_ hb1) | (refine keep_below ?_ hb2)))⟩

set_option maxHeartbeats 400000 in
theorem cbin2_and10 (b : Int) (s u : ByteArray) (hb : ¬ b = 1) (w : World) :
    Calls Tryd.prog 13 #[.string { data := #[38, 38] }, .agg #[.int .i64 2, .int .i64 1, .string s], .agg #[.int .i64 2, .int .i64 b, .string u]] w fun e w' => e = .returned (.tuple #[.agg #[.int .i64 2, .int .i64 0, .string { data := #[] }], .int .i64 0]) ∧ Below w.heap.size w w' := by
  have hb' : (b == 1) = false := by simpa using hb
  go_enter Tryd.func13, Tryd.ntmps13
  go_wp2_with ((go_at_call 32; refine (bools_and10 _).mono ?_; rintro e w1 ⟨rfl, hb1⟩; obtain ⟨hc1, hf1⟩ := bcell hb1; have hz1 := hb1.size))
  exact bodyPost_ret (v := .tuple #[.agg #[.int .i64 2, .int .i64 0, .string { data := #[] }], .int .i64 0]) (by simp [results, Tryd.results13, go_sem, hc1]) rfl ⟨rfl, (by repeat (first | exact Below.refl _ _ | (refine kb_setCell ?_ (by first | (simp; done) | (simp <;> omega))) | apply kb_alloc | (refine keep_below ?_ hb1) | (refine keep_below ?_ hb2)))⟩

set_option maxHeartbeats 400000 in
theorem cbin2_and11 (s u : ByteArray) (w : World) :
    Calls Tryd.prog 13 #[.string { data := #[38, 38] }, .agg #[.int .i64 2, .int .i64 1, .string s], .agg #[.int .i64 2, .int .i64 1, .string u]] w fun e w' => e = .returned (.tuple #[.agg #[.int .i64 2, .int .i64 1, .string { data := #[] }], .int .i64 0]) ∧ Below w.heap.size w w' := by
  go_enter Tryd.func13, Tryd.ntmps13
  go_wp2_with ((go_at_call 32; refine (bools_and11 _).mono ?_; rintro e w1 ⟨rfl, hb1⟩; obtain ⟨hc1, hf1⟩ := bcell hb1; have hz1 := hb1.size))
  exact bodyPost_ret (v := .tuple #[.agg #[.int .i64 2, .int .i64 1, .string { data := #[] }], .int .i64 0]) (by simp [results, Tryd.results13, go_sem, hc1]) rfl ⟨rfl, (by repeat (first | exact Below.refl _ _ | (refine kb_setCell ?_ (by first | (simp; done) | (simp <;> omega))) | apply kb_alloc | (refine keep_below ?_ hb1) | (refine keep_below ?_ hb2)))⟩

set_option maxHeartbeats 400000 in
theorem cbin_plus (a b : Int) (s u : ByteArray) (hs : s.size ≤ 60) (ht : u.size ≤ 60) (hl : s.size + u.size ≤ 40) (w : World) :
    Calls Tryd.prog 13 #[.string { data := #[43] }, .agg #[.int .i64 3, .int .i64 a, .string s], .agg #[.int .i64 3, .int .i64 b, .string u]] w fun e w' => e = .returned (.tuple #[.agg #[.int .i64 3, .int .i64 0, .string (s ++ u)], .int .i64 0]) ∧ Below w.heap.size w w' := by
  go_enter Tryd.func13, Tryd.ntmps13
  go_wp2_with ((go_at_call 33; refine (texts_plus s u hs ht hl _).mono ?_; rintro e w1 ⟨rfl, hb1⟩; obtain ⟨hc1, hf1⟩ := bcell hb1; have hz1 := hb1.size))
  exact bodyPost_ret (v := .tuple #[.agg #[.int .i64 3, .int .i64 0, .string (s ++ u)], .int .i64 0]) (by simp [results, Tryd.results13, go_sem, hc1]) rfl ⟨rfl, (by repeat (first | exact Below.refl _ _ | (refine kb_setCell ?_ (by first | (simp; done) | (simp <;> omega))) | apply kb_alloc | (refine keep_below ?_ hb1) | (refine keep_below ?_ hb2)))⟩

set_option maxHeartbeats 400000 in
theorem cbin_long (a b : Int) (s u : ByteArray) (hs : s.size ≤ 60) (ht : u.size ≤ 60) (hl : 40 < s.size + u.size) (w : World) :
    Calls Tryd.prog 13 #[.string { data := #[43] }, .agg #[.int .i64 3, .int .i64 a, .string s], .agg #[.int .i64 3, .int .i64 b, .string u]] w fun e w' => e = .returned (.tuple #[.agg #[.int .i64 0, .int .i64 0, .string { data := #[] }], .int .i64 6]) ∧ Below w.heap.size w w' := by
  go_enter Tryd.func13, Tryd.ntmps13
  go_wp2_with ((go_at_call 33; refine (texts_long s u hs ht hl _).mono ?_; rintro e w1 ⟨rfl, hb1⟩; obtain ⟨hc1, hf1⟩ := bcell hb1; have hz1 := hb1.size))
  exact bodyPost_ret (v := .tuple #[.agg #[.int .i64 0, .int .i64 0, .string { data := #[] }], .int .i64 6]) (by simp [results, Tryd.results13, go_sem, hc1]) rfl ⟨rfl, (by repeat (first | exact Below.refl _ _ | (refine kb_setCell ?_ (by first | (simp; done) | (simp <;> omega))) | apply kb_alloc | (refine keep_below ?_ hb1) | (refine keep_below ?_ hb2)))⟩

set_option maxHeartbeats 400000 in
theorem cbin_out_add (t n m : Int) (s u : ByteArray) (h : t < 1 ∨ 4 < t) (w : World) :
    Calls Tryd.prog 13 #[.string { data := #[43] }, .agg #[.int .i64 t, .int .i64 n, .string s], .agg #[.int .i64 t, .int .i64 m, .string u]] w fun e w' => e = .returned (.tuple #[.agg #[.int .i64 0, .int .i64 0, .string { data := #[] }], .int .i64 0]) ∧ Below w.heap.size w w' := by
  have h1' : (t == 1) = false := by simpa using (show ¬ t = 1 by omega)
  have h2' : (t == 2) = false := by simpa using (show ¬ t = 2 by omega)
  have h3' : (t == 3) = false := by simpa using (show ¬ t = 3 by omega)
  clear h
  go_enter Tryd.func13, Tryd.ntmps13
  go_wp2
  exact bodyPost_ret (v := .tuple #[.agg #[.int .i64 0, .int .i64 0, .string { data := #[] }], .int .i64 0]) (by simp [results, Tryd.results13, go_sem]) rfl ⟨rfl, (by repeat (first | exact Below.refl _ _ | (refine kb_setCell ?_ (by first | (simp; done) | (simp <;> omega))) | apply kb_alloc | (refine keep_below ?_ hb1) | (refine keep_below ?_ hb2)))⟩

set_option maxHeartbeats 400000 in
theorem cbin_out_sub (t n m : Int) (s u : ByteArray) (h : t < 1 ∨ 4 < t) (w : World) :
    Calls Tryd.prog 13 #[.string { data := #[45] }, .agg #[.int .i64 t, .int .i64 n, .string s], .agg #[.int .i64 t, .int .i64 m, .string u]] w fun e w' => e = .returned (.tuple #[.agg #[.int .i64 0, .int .i64 0, .string { data := #[] }], .int .i64 0]) ∧ Below w.heap.size w w' := by
  have h1' : (t == 1) = false := by simpa using (show ¬ t = 1 by omega)
  have h2' : (t == 2) = false := by simpa using (show ¬ t = 2 by omega)
  have h3' : (t == 3) = false := by simpa using (show ¬ t = 3 by omega)
  clear h
  go_enter Tryd.func13, Tryd.ntmps13
  go_wp2
  exact bodyPost_ret (v := .tuple #[.agg #[.int .i64 0, .int .i64 0, .string { data := #[] }], .int .i64 0]) (by simp [results, Tryd.results13, go_sem]) rfl ⟨rfl, (by repeat (first | exact Below.refl _ _ | (refine kb_setCell ?_ (by first | (simp; done) | (simp <;> omega))) | apply kb_alloc | (refine keep_below ?_ hb1) | (refine keep_below ?_ hb2)))⟩

set_option maxHeartbeats 400000 in
theorem cbin_out_mul (t n m : Int) (s u : ByteArray) (h : t < 1 ∨ 4 < t) (w : World) :
    Calls Tryd.prog 13 #[.string { data := #[42] }, .agg #[.int .i64 t, .int .i64 n, .string s], .agg #[.int .i64 t, .int .i64 m, .string u]] w fun e w' => e = .returned (.tuple #[.agg #[.int .i64 0, .int .i64 0, .string { data := #[] }], .int .i64 0]) ∧ Below w.heap.size w w' := by
  have h1' : (t == 1) = false := by simpa using (show ¬ t = 1 by omega)
  have h2' : (t == 2) = false := by simpa using (show ¬ t = 2 by omega)
  have h3' : (t == 3) = false := by simpa using (show ¬ t = 3 by omega)
  clear h
  go_enter Tryd.func13, Tryd.ntmps13
  go_wp2
  exact bodyPost_ret (v := .tuple #[.agg #[.int .i64 0, .int .i64 0, .string { data := #[] }], .int .i64 0]) (by simp [results, Tryd.results13, go_sem]) rfl ⟨rfl, (by repeat (first | exact Below.refl _ _ | (refine kb_setCell ?_ (by first | (simp; done) | (simp <;> omega))) | apply kb_alloc | (refine keep_below ?_ hb1) | (refine keep_below ?_ hb2)))⟩

set_option maxHeartbeats 400000 in
theorem cbin_out_quo (t n m : Int) (s u : ByteArray) (h : t < 1 ∨ 4 < t) (w : World) :
    Calls Tryd.prog 13 #[.string { data := #[47] }, .agg #[.int .i64 t, .int .i64 n, .string s], .agg #[.int .i64 t, .int .i64 m, .string u]] w fun e w' => e = .returned (.tuple #[.agg #[.int .i64 0, .int .i64 0, .string { data := #[] }], .int .i64 0]) ∧ Below w.heap.size w w' := by
  have h1' : (t == 1) = false := by simpa using (show ¬ t = 1 by omega)
  have h2' : (t == 2) = false := by simpa using (show ¬ t = 2 by omega)
  have h3' : (t == 3) = false := by simpa using (show ¬ t = 3 by omega)
  clear h
  go_enter Tryd.func13, Tryd.ntmps13
  go_wp2
  exact bodyPost_ret (v := .tuple #[.agg #[.int .i64 0, .int .i64 0, .string { data := #[] }], .int .i64 0]) (by simp [results, Tryd.results13, go_sem]) rfl ⟨rfl, (by repeat (first | exact Below.refl _ _ | (refine kb_setCell ?_ (by first | (simp; done) | (simp <;> omega))) | apply kb_alloc | (refine keep_below ?_ hb1) | (refine keep_below ?_ hb2)))⟩

set_option maxHeartbeats 400000 in
theorem cbin_out_rem (t n m : Int) (s u : ByteArray) (h : t < 1 ∨ 4 < t) (w : World) :
    Calls Tryd.prog 13 #[.string { data := #[37] }, .agg #[.int .i64 t, .int .i64 n, .string s], .agg #[.int .i64 t, .int .i64 m, .string u]] w fun e w' => e = .returned (.tuple #[.agg #[.int .i64 0, .int .i64 0, .string { data := #[] }], .int .i64 0]) ∧ Below w.heap.size w w' := by
  have h1' : (t == 1) = false := by simpa using (show ¬ t = 1 by omega)
  have h2' : (t == 2) = false := by simpa using (show ¬ t = 2 by omega)
  have h3' : (t == 3) = false := by simpa using (show ¬ t = 3 by omega)
  clear h
  go_enter Tryd.func13, Tryd.ntmps13
  go_wp2
  exact bodyPost_ret (v := .tuple #[.agg #[.int .i64 0, .int .i64 0, .string { data := #[] }], .int .i64 0]) (by simp [results, Tryd.results13, go_sem]) rfl ⟨rfl, (by repeat (first | exact Below.refl _ _ | (refine kb_setCell ?_ (by first | (simp; done) | (simp <;> omega))) | apply kb_alloc | (refine keep_below ?_ hb1) | (refine keep_below ?_ hb2)))⟩

set_option maxHeartbeats 400000 in
theorem cbin_out_lss (t n m : Int) (s u : ByteArray) (h : t < 1 ∨ 4 < t) (w : World) :
    Calls Tryd.prog 13 #[.string { data := #[60] }, .agg #[.int .i64 t, .int .i64 n, .string s], .agg #[.int .i64 t, .int .i64 m, .string u]] w fun e w' => e = .returned (.tuple #[.agg #[.int .i64 0, .int .i64 0, .string { data := #[] }], .int .i64 0]) ∧ Below w.heap.size w w' := by
  have h1' : (t == 1) = false := by simpa using (show ¬ t = 1 by omega)
  have h2' : (t == 2) = false := by simpa using (show ¬ t = 2 by omega)
  have h3' : (t == 3) = false := by simpa using (show ¬ t = 3 by omega)
  clear h
  go_enter Tryd.func13, Tryd.ntmps13
  go_wp2
  exact bodyPost_ret (v := .tuple #[.agg #[.int .i64 0, .int .i64 0, .string { data := #[] }], .int .i64 0]) (by simp [results, Tryd.results13, go_sem]) rfl ⟨rfl, (by repeat (first | exact Below.refl _ _ | (refine kb_setCell ?_ (by first | (simp; done) | (simp <;> omega))) | apply kb_alloc | (refine keep_below ?_ hb1) | (refine keep_below ?_ hb2)))⟩

set_option maxHeartbeats 400000 in
theorem cbin_out_leq (t n m : Int) (s u : ByteArray) (h : t < 1 ∨ 4 < t) (w : World) :
    Calls Tryd.prog 13 #[.string { data := #[60, 61] }, .agg #[.int .i64 t, .int .i64 n, .string s], .agg #[.int .i64 t, .int .i64 m, .string u]] w fun e w' => e = .returned (.tuple #[.agg #[.int .i64 0, .int .i64 0, .string { data := #[] }], .int .i64 0]) ∧ Below w.heap.size w w' := by
  have h1' : (t == 1) = false := by simpa using (show ¬ t = 1 by omega)
  have h2' : (t == 2) = false := by simpa using (show ¬ t = 2 by omega)
  have h3' : (t == 3) = false := by simpa using (show ¬ t = 3 by omega)
  clear h
  go_enter Tryd.func13, Tryd.ntmps13
  go_wp2
  exact bodyPost_ret (v := .tuple #[.agg #[.int .i64 0, .int .i64 0, .string { data := #[] }], .int .i64 0]) (by simp [results, Tryd.results13, go_sem]) rfl ⟨rfl, (by repeat (first | exact Below.refl _ _ | (refine kb_setCell ?_ (by first | (simp; done) | (simp <;> omega))) | apply kb_alloc | (refine keep_below ?_ hb1) | (refine keep_below ?_ hb2)))⟩

set_option maxHeartbeats 400000 in
theorem cbin_lo_eq (t n m : Int) (s u : ByteArray) (h : t < 1) (w : World) :
    Calls Tryd.prog 13 #[.string { data := #[61, 61] }, .agg #[.int .i64 t, .int .i64 n, .string s], .agg #[.int .i64 t, .int .i64 m, .string u]] w fun e w' => e = .returned (.tuple #[.agg #[.int .i64 0, .int .i64 0, .string { data := #[] }], .int .i64 0]) ∧ Below w.heap.size w w' := by
  go_enter Tryd.func13, Tryd.ntmps13
  go_wp2
  exact bodyPost_ret (v := .tuple #[.agg #[.int .i64 0, .int .i64 0, .string { data := #[] }], .int .i64 0]) (by simp [results, Tryd.results13, go_sem]) rfl ⟨rfl, (by repeat (first | exact Below.refl _ _ | (refine kb_setCell ?_ (by first | (simp; done) | (simp <;> omega))) | apply kb_alloc | (refine keep_below ?_ hb1) | (refine keep_below ?_ hb2)))⟩

set_option maxHeartbeats 400000 in
theorem cbin_hi_eq (t n m : Int) (s u : ByteArray) (h : 4 < t) (w : World) :
    Calls Tryd.prog 13 #[.string { data := #[61, 61] }, .agg #[.int .i64 t, .int .i64 n, .string s], .agg #[.int .i64 t, .int .i64 m, .string u]] w fun e w' => e = .returned (.tuple #[.agg #[.int .i64 0, .int .i64 0, .string { data := #[] }], .int .i64 0]) ∧ Below w.heap.size w w' := by
  have h1 : ¬ t < 1 := by omega
  go_enter Tryd.func13, Tryd.ntmps13
  go_wp2
  exact bodyPost_ret (v := .tuple #[.agg #[.int .i64 0, .int .i64 0, .string { data := #[] }], .int .i64 0]) (by simp [results, Tryd.results13, go_sem]) rfl ⟨rfl, (by repeat (first | exact Below.refl _ _ | (refine kb_setCell ?_ (by first | (simp; done) | (simp <;> omega))) | apply kb_alloc | (refine keep_below ?_ hb1) | (refine keep_below ?_ hb2)))⟩

set_option maxHeartbeats 400000 in
theorem cbin_lo_ne (t n m : Int) (s u : ByteArray) (h : t < 1) (w : World) :
    Calls Tryd.prog 13 #[.string { data := #[33, 61] }, .agg #[.int .i64 t, .int .i64 n, .string s], .agg #[.int .i64 t, .int .i64 m, .string u]] w fun e w' => e = .returned (.tuple #[.agg #[.int .i64 0, .int .i64 0, .string { data := #[] }], .int .i64 0]) ∧ Below w.heap.size w w' := by
  go_enter Tryd.func13, Tryd.ntmps13
  go_wp2
  exact bodyPost_ret (v := .tuple #[.agg #[.int .i64 0, .int .i64 0, .string { data := #[] }], .int .i64 0]) (by simp [results, Tryd.results13, go_sem]) rfl ⟨rfl, (by repeat (first | exact Below.refl _ _ | (refine kb_setCell ?_ (by first | (simp; done) | (simp <;> omega))) | apply kb_alloc | (refine keep_below ?_ hb1) | (refine keep_below ?_ hb2)))⟩

set_option maxHeartbeats 400000 in
theorem cbin_hi_ne (t n m : Int) (s u : ByteArray) (h : 4 < t) (w : World) :
    Calls Tryd.prog 13 #[.string { data := #[33, 61] }, .agg #[.int .i64 t, .int .i64 n, .string s], .agg #[.int .i64 t, .int .i64 m, .string u]] w fun e w' => e = .returned (.tuple #[.agg #[.int .i64 0, .int .i64 0, .string { data := #[] }], .int .i64 0]) ∧ Below w.heap.size w w' := by
  have h1 : ¬ t < 1 := by omega
  go_enter Tryd.func13, Tryd.ntmps13
  go_wp2
  exact bodyPost_ret (v := .tuple #[.agg #[.int .i64 0, .int .i64 0, .string { data := #[] }], .int .i64 0]) (by simp [results, Tryd.results13, go_sem]) rfl ⟨rfl, (by repeat (first | exact Below.refl _ _ | (refine kb_setCell ?_ (by first | (simp; done) | (simp <;> omega))) | apply kb_alloc | (refine keep_below ?_ hb1) | (refine keep_below ?_ hb2)))⟩

set_option maxHeartbeats 400000 in
theorem cbin_out_or (t n m : Int) (s u : ByteArray) (h : t < 1 ∨ 4 < t) (w : World) :
    Calls Tryd.prog 13 #[.string { data := #[124, 124] }, .agg #[.int .i64 t, .int .i64 n, .string s], .agg #[.int .i64 t, .int .i64 m, .string u]] w fun e w' => e = .returned (.tuple #[.agg #[.int .i64 0, .int .i64 0, .string { data := #[] }], .int .i64 0]) ∧ Below w.heap.size w w' := by
  have h1' : (t == 1) = false := by simpa using (show ¬ t = 1 by omega)
  have h2' : (t == 2) = false := by simpa using (show ¬ t = 2 by omega)
  have h3' : (t == 3) = false := by simpa using (show ¬ t = 3 by omega)
  clear h
  go_enter Tryd.func13, Tryd.ntmps13
  go_wp2
  exact bodyPost_ret (v := .tuple #[.agg #[.int .i64 0, .int .i64 0, .string { data := #[] }], .int .i64 0]) (by simp [results, Tryd.results13, go_sem]) rfl ⟨rfl, (by repeat (first | exact Below.refl _ _ | (refine kb_setCell ?_ (by first | (simp; done) | (simp <;> omega))) | apply kb_alloc | (refine keep_below ?_ hb1) | (refine keep_below ?_ hb2)))⟩

set_option maxHeartbeats 400000 in
theorem cbin_out_and (t n m : Int) (s u : ByteArray) (h : t < 1 ∨ 4 < t) (w : World) :
    Calls Tryd.prog 13 #[.string { data := #[38, 38] }, .agg #[.int .i64 t, .int .i64 n, .string s], .agg #[.int .i64 t, .int .i64 m, .string u]] w fun e w' => e = .returned (.tuple #[.agg #[.int .i64 0, .int .i64 0, .string { data := #[] }], .int .i64 0]) ∧ Below w.heap.size w w' := by
  have h1' : (t == 1) = false := by simpa using (show ¬ t = 1 by omega)
  have h2' : (t == 2) = false := by simpa using (show ¬ t = 2 by omega)
  have h3' : (t == 3) = false := by simpa using (show ¬ t = 3 by omega)
  clear h
  go_enter Tryd.func13, Tryd.ntmps13
  go_wp2
  exact bodyPost_ret (v := .tuple #[.agg #[.int .i64 0, .int .i64 0, .string { data := #[] }], .int .i64 0]) (by simp [results, Tryd.results13, go_sem]) rfl ⟨rfl, (by repeat (first | exact Below.refl _ _ | (refine kb_setCell ?_ (by first | (simp; done) | (simp <;> omega))) | apply kb_alloc | (refine keep_below ?_ hb1) | (refine keep_below ?_ hb2)))⟩

set_option maxHeartbeats 400000 in
theorem cbin_out_not (t n m : Int) (s u : ByteArray) (h : t < 1 ∨ 4 < t) (w : World) :
    Calls Tryd.prog 13 #[.string { data := #[33] }, .agg #[.int .i64 t, .int .i64 n, .string s], .agg #[.int .i64 t, .int .i64 m, .string u]] w fun e w' => e = .returned (.tuple #[.agg #[.int .i64 0, .int .i64 0, .string { data := #[] }], .int .i64 0]) ∧ Below w.heap.size w w' := by
  have h1' : (t == 1) = false := by simpa using (show ¬ t = 1 by omega)
  have h2' : (t == 2) = false := by simpa using (show ¬ t = 2 by omega)
  have h3' : (t == 3) = false := by simpa using (show ¬ t = 3 by omega)
  clear h
  go_enter Tryd.func13, Tryd.ntmps13
  go_wp2
  exact bodyPost_ret (v := .tuple #[.agg #[.int .i64 0, .int .i64 0, .string { data := #[] }], .int .i64 0]) (by simp [results, Tryd.results13, go_sem]) rfl ⟨rfl, (by repeat (first | exact Below.refl _ _ | (refine kb_setCell ?_ (by first | (simp; done) | (simp <;> omega))) | apply kb_alloc | (refine keep_below ?_ hb1) | (refine keep_below ?_ hb2)))⟩

set_option maxHeartbeats 400000 in
theorem cbin_out_ask (t n m : Int) (s u : ByteArray) (h : t < 1 ∨ 4 < t) (w : World) :
    Calls Tryd.prog 13 #[.string { data := #[63] }, .agg #[.int .i64 t, .int .i64 n, .string s], .agg #[.int .i64 t, .int .i64 m, .string u]] w fun e w' => e = .returned (.tuple #[.agg #[.int .i64 0, .int .i64 0, .string { data := #[] }], .int .i64 0]) ∧ Below w.heap.size w w' := by
  have h1' : (t == 1) = false := by simpa using (show ¬ t = 1 by omega)
  have h2' : (t == 2) = false := by simpa using (show ¬ t = 2 by omega)
  have h3' : (t == 3) = false := by simpa using (show ¬ t = 3 by omega)
  clear h
  go_enter Tryd.func13, Tryd.ntmps13
  go_wp2
  exact bodyPost_ret (v := .tuple #[.agg #[.int .i64 0, .int .i64 0, .string { data := #[] }], .int .i64 0]) (by simp [results, Tryd.results13, go_sem]) rfl ⟨rfl, (by repeat (first | exact Below.refl _ _ | (refine kb_setCell ?_ (by first | (simp; done) | (simp <;> omega))) | apply kb_alloc | (refine keep_below ?_ hb1) | (refine keep_below ?_ hb2)))⟩
end Go.Proofs.YtpighdioomjnmaaDoor.textsof
