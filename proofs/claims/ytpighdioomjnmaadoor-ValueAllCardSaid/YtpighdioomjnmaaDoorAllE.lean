/-
  Layer 5: contracts of Sign, May, Word and Quoted, of the program and of the document. Written by an AI agent.
-/
import Derived.Test.YtpighdioomjnmaaDoorAllA
import Derived.IntWalk
namespace Go.Proofs.YtpighdioomjnmaaDoor.textsof
open Go.RowKit Go.Proofs.YtpighdioomjnmaaDoor.logic
set_option linter.unusedVariables false
set_option linter.unusedSimpArgs false

theorem sgo : True := trivial

set_option maxHeartbeats 400000 in
theorem csign_add (t n : Int) (s : ByteArray) (w : World) :
    Calls Tryd.prog 23 #[.string { data := #[43] }, .agg #[.int .i64 t, .int .i64 n, .string s]] w fun e w' => e = .returned (.agg #[.int .i64 0, .int .i64 0, .string { data := #[] }]) ∧ Below w.heap.size w w' := by
  go_enter Tryd.func23, Tryd.ntmps23
  go_wp2
  exact bodyPost_ret (v := .agg #[.int .i64 0, .int .i64 0, .string { data := #[] }]) (by simp [results, Tryd.results23, go_sem]) rfl ⟨rfl, (by repeat (first | exact Below.refl _ _ | (refine kb_setCell ?_ (by first | (simp; done) | (simp <;> omega))) | apply kb_alloc | (refine keep_below ?_ hb1) | (refine keep_below ?_ hb2)))⟩

set_option maxHeartbeats 400000 in
theorem csign_sub1 (n : Int) (s : ByteArray) (w : World) :
    Calls Tryd.prog 23 #[.string { data := #[45] }, .agg #[.int .i64 1, .int .i64 n, .string s]] w fun e w' => e = .returned (.agg #[.int .i64 1, .int .i64 (wrap64 (-n)), .string { data := #[] }]) ∧ Below w.heap.size w w' := by
  go_enter Tryd.func23, Tryd.ntmps23
  go_wp2_with ((go_at_call 15; refine (int_any _ _).mono ?_; rintro e w1 ⟨rfl, hb1⟩; obtain ⟨hc1, hf1⟩ := bcell hb1; have hz1 := hb1.size))
  exact bodyPost_ret (v := .agg #[.int .i64 1, .int .i64 (wrap64 (-n)), .string { data := #[] }]) (by simp [results, Tryd.results23, go_sem, hc1]) rfl ⟨rfl, (by repeat (first | exact Below.refl _ _ | (refine kb_setCell ?_ (by first | (simp; done) | (simp <;> omega))) | apply kb_alloc | (refine keep_below ?_ hb1) | (refine keep_below ?_ hb2)))⟩

set_option maxHeartbeats 400000 in
theorem csign_sub (t n : Int) (s : ByteArray) (h : ¬ t = 1) (w : World) :
    Calls Tryd.prog 23 #[.string { data := #[45] }, .agg #[.int .i64 t, .int .i64 n, .string s]] w fun e w' => e = .returned (.agg #[.int .i64 0, .int .i64 0, .string { data := #[] }]) ∧ Below w.heap.size w w' := by
  have h' : (t == 1) = false := by simpa using h
  go_enter Tryd.func23, Tryd.ntmps23
  go_wp2
  exact bodyPost_ret (v := .agg #[.int .i64 0, .int .i64 0, .string { data := #[] }]) (by simp [results, Tryd.results23, go_sem]) rfl ⟨rfl, (by repeat (first | exact Below.refl _ _ | (refine kb_setCell ?_ (by first | (simp; done) | (simp <;> omega))) | apply kb_alloc | (refine keep_below ?_ hb1) | (refine keep_below ?_ hb2)))⟩

set_option maxHeartbeats 400000 in
theorem csign_mul (t n : Int) (s : ByteArray) (w : World) :
    Calls Tryd.prog 23 #[.string { data := #[42] }, .agg #[.int .i64 t, .int .i64 n, .string s]] w fun e w' => e = .returned (.agg #[.int .i64 0, .int .i64 0, .string { data := #[] }]) ∧ Below w.heap.size w w' := by
  go_enter Tryd.func23, Tryd.ntmps23
  go_wp2
  exact bodyPost_ret (v := .agg #[.int .i64 0, .int .i64 0, .string { data := #[] }]) (by simp [results, Tryd.results23, go_sem]) rfl ⟨rfl, (by repeat (first | exact Below.refl _ _ | (refine kb_setCell ?_ (by first | (simp; done) | (simp <;> omega))) | apply kb_alloc | (refine keep_below ?_ hb1) | (refine keep_below ?_ hb2)))⟩

set_option maxHeartbeats 400000 in
theorem csign_quo (t n : Int) (s : ByteArray) (w : World) :
    Calls Tryd.prog 23 #[.string { data := #[47] }, .agg #[.int .i64 t, .int .i64 n, .string s]] w fun e w' => e = .returned (.agg #[.int .i64 0, .int .i64 0, .string { data := #[] }]) ∧ Below w.heap.size w w' := by
  go_enter Tryd.func23, Tryd.ntmps23
  go_wp2
  exact bodyPost_ret (v := .agg #[.int .i64 0, .int .i64 0, .string { data := #[] }]) (by simp [results, Tryd.results23, go_sem]) rfl ⟨rfl, (by repeat (first | exact Below.refl _ _ | (refine kb_setCell ?_ (by first | (simp; done) | (simp <;> omega))) | apply kb_alloc | (refine keep_below ?_ hb1) | (refine keep_below ?_ hb2)))⟩

set_option maxHeartbeats 400000 in
theorem csign_rem (t n : Int) (s : ByteArray) (w : World) :
    Calls Tryd.prog 23 #[.string { data := #[37] }, .agg #[.int .i64 t, .int .i64 n, .string s]] w fun e w' => e = .returned (.agg #[.int .i64 0, .int .i64 0, .string { data := #[] }]) ∧ Below w.heap.size w w' := by
  go_enter Tryd.func23, Tryd.ntmps23
  go_wp2
  exact bodyPost_ret (v := .agg #[.int .i64 0, .int .i64 0, .string { data := #[] }]) (by simp [results, Tryd.results23, go_sem]) rfl ⟨rfl, (by repeat (first | exact Below.refl _ _ | (refine kb_setCell ?_ (by first | (simp; done) | (simp <;> omega))) | apply kb_alloc | (refine keep_below ?_ hb1) | (refine keep_below ?_ hb2)))⟩

set_option maxHeartbeats 400000 in
theorem csign_lss (t n : Int) (s : ByteArray) (w : World) :
    Calls Tryd.prog 23 #[.string { data := #[60] }, .agg #[.int .i64 t, .int .i64 n, .string s]] w fun e w' => e = .returned (.agg #[.int .i64 0, .int .i64 0, .string { data := #[] }]) ∧ Below w.heap.size w w' := by
  go_enter Tryd.func23, Tryd.ntmps23
  go_wp2
  exact bodyPost_ret (v := .agg #[.int .i64 0, .int .i64 0, .string { data := #[] }]) (by simp [results, Tryd.results23, go_sem]) rfl ⟨rfl, (by repeat (first | exact Below.refl _ _ | (refine kb_setCell ?_ (by first | (simp; done) | (simp <;> omega))) | apply kb_alloc | (refine keep_below ?_ hb1) | (refine keep_below ?_ hb2)))⟩

set_option maxHeartbeats 400000 in
theorem csign_leq (t n : Int) (s : ByteArray) (w : World) :
    Calls Tryd.prog 23 #[.string { data := #[60, 61] }, .agg #[.int .i64 t, .int .i64 n, .string s]] w fun e w' => e = .returned (.agg #[.int .i64 0, .int .i64 0, .string { data := #[] }]) ∧ Below w.heap.size w w' := by
  go_enter Tryd.func23, Tryd.ntmps23
  go_wp2
  exact bodyPost_ret (v := .agg #[.int .i64 0, .int .i64 0, .string { data := #[] }]) (by simp [results, Tryd.results23, go_sem]) rfl ⟨rfl, (by repeat (first | exact Below.refl _ _ | (refine kb_setCell ?_ (by first | (simp; done) | (simp <;> omega))) | apply kb_alloc | (refine keep_below ?_ hb1) | (refine keep_below ?_ hb2)))⟩

set_option maxHeartbeats 400000 in
theorem csign_eq (t n : Int) (s : ByteArray) (w : World) :
    Calls Tryd.prog 23 #[.string { data := #[61, 61] }, .agg #[.int .i64 t, .int .i64 n, .string s]] w fun e w' => e = .returned (.agg #[.int .i64 0, .int .i64 0, .string { data := #[] }]) ∧ Below w.heap.size w w' := by
  go_enter Tryd.func23, Tryd.ntmps23
  go_wp2
  exact bodyPost_ret (v := .agg #[.int .i64 0, .int .i64 0, .string { data := #[] }]) (by simp [results, Tryd.results23, go_sem]) rfl ⟨rfl, (by repeat (first | exact Below.refl _ _ | (refine kb_setCell ?_ (by first | (simp; done) | (simp <;> omega))) | apply kb_alloc | (refine keep_below ?_ hb1) | (refine keep_below ?_ hb2)))⟩

set_option maxHeartbeats 400000 in
theorem csign_ne (t n : Int) (s : ByteArray) (w : World) :
    Calls Tryd.prog 23 #[.string { data := #[33, 61] }, .agg #[.int .i64 t, .int .i64 n, .string s]] w fun e w' => e = .returned (.agg #[.int .i64 0, .int .i64 0, .string { data := #[] }]) ∧ Below w.heap.size w w' := by
  go_enter Tryd.func23, Tryd.ntmps23
  go_wp2
  exact bodyPost_ret (v := .agg #[.int .i64 0, .int .i64 0, .string { data := #[] }]) (by simp [results, Tryd.results23, go_sem]) rfl ⟨rfl, (by repeat (first | exact Below.refl _ _ | (refine kb_setCell ?_ (by first | (simp; done) | (simp <;> omega))) | apply kb_alloc | (refine keep_below ?_ hb1) | (refine keep_below ?_ hb2)))⟩

set_option maxHeartbeats 400000 in
theorem csign_or (t n : Int) (s : ByteArray) (w : World) :
    Calls Tryd.prog 23 #[.string { data := #[124, 124] }, .agg #[.int .i64 t, .int .i64 n, .string s]] w fun e w' => e = .returned (.agg #[.int .i64 0, .int .i64 0, .string { data := #[] }]) ∧ Below w.heap.size w w' := by
  go_enter Tryd.func23, Tryd.ntmps23
  go_wp2
  exact bodyPost_ret (v := .agg #[.int .i64 0, .int .i64 0, .string { data := #[] }]) (by simp [results, Tryd.results23, go_sem]) rfl ⟨rfl, (by repeat (first | exact Below.refl _ _ | (refine kb_setCell ?_ (by first | (simp; done) | (simp <;> omega))) | apply kb_alloc | (refine keep_below ?_ hb1) | (refine keep_below ?_ hb2)))⟩

set_option maxHeartbeats 400000 in
theorem csign_and (t n : Int) (s : ByteArray) (w : World) :
    Calls Tryd.prog 23 #[.string { data := #[38, 38] }, .agg #[.int .i64 t, .int .i64 n, .string s]] w fun e w' => e = .returned (.agg #[.int .i64 0, .int .i64 0, .string { data := #[] }]) ∧ Below w.heap.size w w' := by
  go_enter Tryd.func23, Tryd.ntmps23
  go_wp2
  exact bodyPost_ret (v := .agg #[.int .i64 0, .int .i64 0, .string { data := #[] }]) (by simp [results, Tryd.results23, go_sem]) rfl ⟨rfl, (by repeat (first | exact Below.refl _ _ | (refine kb_setCell ?_ (by first | (simp; done) | (simp <;> omega))) | apply kb_alloc | (refine keep_below ?_ hb1) | (refine keep_below ?_ hb2)))⟩

set_option maxHeartbeats 400000 in
theorem csign_not21 (s : ByteArray) (w : World) :
    Calls Tryd.prog 23 #[.string { data := #[33] }, .agg #[.int .i64 2, .int .i64 1, .string s]] w fun e w' => e = .returned (.agg #[.int .i64 2, .int .i64 0, .string { data := #[] }]) ∧ Below w.heap.size w w' := by
  go_enter Tryd.func23, Tryd.ntmps23
  go_wp2_with ((go_at_call 17; refine (bool_0 _).mono ?_; rintro e w1 ⟨rfl, hb1⟩; obtain ⟨hc1, hf1⟩ := bcell hb1; have hz1 := hb1.size))
  exact bodyPost_ret (v := .agg #[.int .i64 2, .int .i64 0, .string { data := #[] }]) (by simp [results, Tryd.results23, go_sem, hc1]) rfl ⟨rfl, (by repeat (first | exact Below.refl _ _ | (refine kb_setCell ?_ (by first | (simp; done) | (simp <;> omega))) | apply kb_alloc | (refine keep_below ?_ hb1) | (refine keep_below ?_ hb2)))⟩

set_option maxHeartbeats 400000 in
theorem csign_not20 (n : Int) (s : ByteArray) (h : ¬ n = 1) (w : World) :
    Calls Tryd.prog 23 #[.string { data := #[33] }, .agg #[.int .i64 2, .int .i64 n, .string s]] w fun e w' => e = .returned (.agg #[.int .i64 2, .int .i64 1, .string { data := #[] }]) ∧ Below w.heap.size w w' := by
  have h' : (n == 1) = false := by simpa using h
  have h'' : (n != 1) = true := by simpa using h
  go_enter Tryd.func23, Tryd.ntmps23
  go_wp2_with ((go_at_call 17; refine (bool_1' _).mono ?_; rintro e w1 ⟨rfl, hb1⟩; obtain ⟨hc1, hf1⟩ := bcell hb1; have hz1 := hb1.size))
  exact bodyPost_ret (v := .agg #[.int .i64 2, .int .i64 1, .string { data := #[] }]) (by simp [results, Tryd.results23, go_sem, hc1]) rfl ⟨rfl, (by repeat (first | exact Below.refl _ _ | (refine kb_setCell ?_ (by first | (simp; done) | (simp <;> omega))) | apply kb_alloc | (refine keep_below ?_ hb1) | (refine keep_below ?_ hb2)))⟩

set_option maxHeartbeats 400000 in
theorem csign_not (t n : Int) (s : ByteArray) (h : ¬ t = 2) (w : World) :
    Calls Tryd.prog 23 #[.string { data := #[33] }, .agg #[.int .i64 t, .int .i64 n, .string s]] w fun e w' => e = .returned (.agg #[.int .i64 0, .int .i64 0, .string { data := #[] }]) ∧ Below w.heap.size w w' := by
  have h' : (t == 2) = false := by simpa using h
  go_enter Tryd.func23, Tryd.ntmps23
  go_wp2
  exact bodyPost_ret (v := .agg #[.int .i64 0, .int .i64 0, .string { data := #[] }]) (by simp [results, Tryd.results23, go_sem]) rfl ⟨rfl, (by repeat (first | exact Below.refl _ _ | (refine kb_setCell ?_ (by first | (simp; done) | (simp <;> omega))) | apply kb_alloc | (refine keep_below ?_ hb1) | (refine keep_below ?_ hb2)))⟩

set_option maxHeartbeats 400000 in
theorem csign_ask (t n : Int) (s : ByteArray) (w : World) :
    Calls Tryd.prog 23 #[.string { data := #[63] }, .agg #[.int .i64 t, .int .i64 n, .string s]] w fun e w' => e = .returned (.agg #[.int .i64 0, .int .i64 0, .string { data := #[] }]) ∧ Below w.heap.size w w' := by
  go_enter Tryd.func23, Tryd.ntmps23
  go_wp2
  exact bodyPost_ret (v := .agg #[.int .i64 0, .int .i64 0, .string { data := #[] }]) (by simp [results, Tryd.results23, go_sem]) rfl ⟨rfl, (by repeat (first | exact Below.refl _ _ | (refine kb_setCell ?_ (by first | (simp; done) | (simp <;> omega))) | apply kb_alloc | (refine keep_below ?_ hb1) | (refine keep_below ?_ hb2)))⟩

set_option maxHeartbeats 400000 in
theorem rsign_add (t n : Int) (s : ByteArray) (w : World) :
    Calls Tryd.prog 24 #[.string { data := #[43] }, .agg #[.int .i64 t, .int .i64 n, .string s]] w fun e w' => e = .returned (.agg #[.int .i64 0, .int .i64 0, .string { data := #[] }]) ∧ Below w.heap.size w w' := by
  go_enter Tryd.func24, Tryd.ntmps24
  go_wp2
  exact bodyPost_ret (v := .agg #[.int .i64 0, .int .i64 0, .string { data := #[] }]) (by simp [results, Tryd.results24, go_sem]) rfl ⟨rfl, (by repeat (first | exact Below.refl _ _ | (refine kb_setCell ?_ (by first | (simp; done) | (simp <;> omega))) | apply kb_alloc | (refine keep_below ?_ hb1) | (refine keep_below ?_ hb2)))⟩

set_option maxHeartbeats 400000 in
theorem rsign_sub1 (n : Int) (s : ByteArray) (w : World) :
    Calls Tryd.prog 24 #[.string { data := #[45] }, .agg #[.int .i64 1, .int .i64 n, .string s]] w fun e w' => e = .returned (.agg #[.int .i64 1, .int .i64 (wrap64 (-n)), .string { data := #[] }]) ∧ Below w.heap.size w w' := by
  go_enter Tryd.func24, Tryd.ntmps24
  go_wp2_with ((go_at_call 16; refine (rint_any _ _).mono ?_; rintro e w1 ⟨rfl, hb1⟩; obtain ⟨hc1, hf1⟩ := bcell hb1; have hz1 := hb1.size))
  exact bodyPost_ret (v := .agg #[.int .i64 1, .int .i64 (wrap64 (-n)), .string { data := #[] }]) (by simp [results, Tryd.results24, go_sem, hc1]) rfl ⟨rfl, (by repeat (first | exact Below.refl _ _ | (refine kb_setCell ?_ (by first | (simp; done) | (simp <;> omega))) | apply kb_alloc | (refine keep_below ?_ hb1) | (refine keep_below ?_ hb2)))⟩

set_option maxHeartbeats 400000 in
theorem rsign_sub (t n : Int) (s : ByteArray) (h : ¬ t = 1) (w : World) :
    Calls Tryd.prog 24 #[.string { data := #[45] }, .agg #[.int .i64 t, .int .i64 n, .string s]] w fun e w' => e = .returned (.agg #[.int .i64 0, .int .i64 0, .string { data := #[] }]) ∧ Below w.heap.size w w' := by
  have h' : (t == 1) = false := by simpa using h
  go_enter Tryd.func24, Tryd.ntmps24
  go_wp2
  exact bodyPost_ret (v := .agg #[.int .i64 0, .int .i64 0, .string { data := #[] }]) (by simp [results, Tryd.results24, go_sem]) rfl ⟨rfl, (by repeat (first | exact Below.refl _ _ | (refine kb_setCell ?_ (by first | (simp; done) | (simp <;> omega))) | apply kb_alloc | (refine keep_below ?_ hb1) | (refine keep_below ?_ hb2)))⟩

set_option maxHeartbeats 400000 in
theorem rsign_mul (t n : Int) (s : ByteArray) (w : World) :
    Calls Tryd.prog 24 #[.string { data := #[42] }, .agg #[.int .i64 t, .int .i64 n, .string s]] w fun e w' => e = .returned (.agg #[.int .i64 0, .int .i64 0, .string { data := #[] }]) ∧ Below w.heap.size w w' := by
  go_enter Tryd.func24, Tryd.ntmps24
  go_wp2
  exact bodyPost_ret (v := .agg #[.int .i64 0, .int .i64 0, .string { data := #[] }]) (by simp [results, Tryd.results24, go_sem]) rfl ⟨rfl, (by repeat (first | exact Below.refl _ _ | (refine kb_setCell ?_ (by first | (simp; done) | (simp <;> omega))) | apply kb_alloc | (refine keep_below ?_ hb1) | (refine keep_below ?_ hb2)))⟩

set_option maxHeartbeats 400000 in
theorem rsign_quo (t n : Int) (s : ByteArray) (w : World) :
    Calls Tryd.prog 24 #[.string { data := #[47] }, .agg #[.int .i64 t, .int .i64 n, .string s]] w fun e w' => e = .returned (.agg #[.int .i64 0, .int .i64 0, .string { data := #[] }]) ∧ Below w.heap.size w w' := by
  go_enter Tryd.func24, Tryd.ntmps24
  go_wp2
  exact bodyPost_ret (v := .agg #[.int .i64 0, .int .i64 0, .string { data := #[] }]) (by simp [results, Tryd.results24, go_sem]) rfl ⟨rfl, (by repeat (first | exact Below.refl _ _ | (refine kb_setCell ?_ (by first | (simp; done) | (simp <;> omega))) | apply kb_alloc | (refine keep_below ?_ hb1) | (refine keep_below ?_ hb2)))⟩

set_option maxHeartbeats 400000 in
theorem rsign_rem (t n : Int) (s : ByteArray) (w : World) :
    Calls Tryd.prog 24 #[.string { data := #[37] }, .agg #[.int .i64 t, .int .i64 n, .string s]] w fun e w' => e = .returned (.agg #[.int .i64 0, .int .i64 0, .string { data := #[] }]) ∧ Below w.heap.size w w' := by
  go_enter Tryd.func24, Tryd.ntmps24
  go_wp2
  exact bodyPost_ret (v := .agg #[.int .i64 0, .int .i64 0, .string { data := #[] }]) (by simp [results, Tryd.results24, go_sem]) rfl ⟨rfl, (by repeat (first | exact Below.refl _ _ | (refine kb_setCell ?_ (by first | (simp; done) | (simp <;> omega))) | apply kb_alloc | (refine keep_below ?_ hb1) | (refine keep_below ?_ hb2)))⟩

set_option maxHeartbeats 400000 in
theorem rsign_lss (t n : Int) (s : ByteArray) (w : World) :
    Calls Tryd.prog 24 #[.string { data := #[60] }, .agg #[.int .i64 t, .int .i64 n, .string s]] w fun e w' => e = .returned (.agg #[.int .i64 0, .int .i64 0, .string { data := #[] }]) ∧ Below w.heap.size w w' := by
  go_enter Tryd.func24, Tryd.ntmps24
  go_wp2
  exact bodyPost_ret (v := .agg #[.int .i64 0, .int .i64 0, .string { data := #[] }]) (by simp [results, Tryd.results24, go_sem]) rfl ⟨rfl, (by repeat (first | exact Below.refl _ _ | (refine kb_setCell ?_ (by first | (simp; done) | (simp <;> omega))) | apply kb_alloc | (refine keep_below ?_ hb1) | (refine keep_below ?_ hb2)))⟩

set_option maxHeartbeats 400000 in
theorem rsign_leq (t n : Int) (s : ByteArray) (w : World) :
    Calls Tryd.prog 24 #[.string { data := #[60, 61] }, .agg #[.int .i64 t, .int .i64 n, .string s]] w fun e w' => e = .returned (.agg #[.int .i64 0, .int .i64 0, .string { data := #[] }]) ∧ Below w.heap.size w w' := by
  go_enter Tryd.func24, Tryd.ntmps24
  go_wp2
  exact bodyPost_ret (v := .agg #[.int .i64 0, .int .i64 0, .string { data := #[] }]) (by simp [results, Tryd.results24, go_sem]) rfl ⟨rfl, (by repeat (first | exact Below.refl _ _ | (refine kb_setCell ?_ (by first | (simp; done) | (simp <;> omega))) | apply kb_alloc | (refine keep_below ?_ hb1) | (refine keep_below ?_ hb2)))⟩

set_option maxHeartbeats 400000 in
theorem rsign_eq (t n : Int) (s : ByteArray) (w : World) :
    Calls Tryd.prog 24 #[.string { data := #[61, 61] }, .agg #[.int .i64 t, .int .i64 n, .string s]] w fun e w' => e = .returned (.agg #[.int .i64 0, .int .i64 0, .string { data := #[] }]) ∧ Below w.heap.size w w' := by
  go_enter Tryd.func24, Tryd.ntmps24
  go_wp2
  exact bodyPost_ret (v := .agg #[.int .i64 0, .int .i64 0, .string { data := #[] }]) (by simp [results, Tryd.results24, go_sem]) rfl ⟨rfl, (by repeat (first | exact Below.refl _ _ | (refine kb_setCell ?_ (by first | (simp; done) | (simp <;> omega))) | apply kb_alloc | (refine keep_below ?_ hb1) | (refine keep_below ?_ hb2)))⟩

set_option maxHeartbeats 400000 in
theorem rsign_ne (t n : Int) (s : ByteArray) (w : World) :
    Calls Tryd.prog 24 #[.string { data := #[33, 61] }, .agg #[.int .i64 t, .int .i64 n, .string s]] w fun e w' => e = .returned (.agg #[.int .i64 0, .int .i64 0, .string { data := #[] }]) ∧ Below w.heap.size w w' := by
  go_enter Tryd.func24, Tryd.ntmps24
  go_wp2
  exact bodyPost_ret (v := .agg #[.int .i64 0, .int .i64 0, .string { data := #[] }]) (by simp [results, Tryd.results24, go_sem]) rfl ⟨rfl, (by repeat (first | exact Below.refl _ _ | (refine kb_setCell ?_ (by first | (simp; done) | (simp <;> omega))) | apply kb_alloc | (refine keep_below ?_ hb1) | (refine keep_below ?_ hb2)))⟩

set_option maxHeartbeats 400000 in
theorem rsign_or (t n : Int) (s : ByteArray) (w : World) :
    Calls Tryd.prog 24 #[.string { data := #[124, 124] }, .agg #[.int .i64 t, .int .i64 n, .string s]] w fun e w' => e = .returned (.agg #[.int .i64 0, .int .i64 0, .string { data := #[] }]) ∧ Below w.heap.size w w' := by
  go_enter Tryd.func24, Tryd.ntmps24
  go_wp2
  exact bodyPost_ret (v := .agg #[.int .i64 0, .int .i64 0, .string { data := #[] }]) (by simp [results, Tryd.results24, go_sem]) rfl ⟨rfl, (by repeat (first | exact Below.refl _ _ | (refine kb_setCell ?_ (by first | (simp; done) | (simp <;> omega))) | apply kb_alloc | (refine keep_below ?_ hb1) | (refine keep_below ?_ hb2)))⟩

set_option maxHeartbeats 400000 in
theorem rsign_and (t n : Int) (s : ByteArray) (w : World) :
    Calls Tryd.prog 24 #[.string { data := #[38, 38] }, .agg #[.int .i64 t, .int .i64 n, .string s]] w fun e w' => e = .returned (.agg #[.int .i64 0, .int .i64 0, .string { data := #[] }]) ∧ Below w.heap.size w w' := by
  go_enter Tryd.func24, Tryd.ntmps24
  go_wp2
  exact bodyPost_ret (v := .agg #[.int .i64 0, .int .i64 0, .string { data := #[] }]) (by simp [results, Tryd.results24, go_sem]) rfl ⟨rfl, (by repeat (first | exact Below.refl _ _ | (refine kb_setCell ?_ (by first | (simp; done) | (simp <;> omega))) | apply kb_alloc | (refine keep_below ?_ hb1) | (refine keep_below ?_ hb2)))⟩

set_option maxHeartbeats 400000 in
theorem rsign_not21 (s : ByteArray) (w : World) :
    Calls Tryd.prog 24 #[.string { data := #[33] }, .agg #[.int .i64 2, .int .i64 1, .string s]] w fun e w' => e = .returned (.agg #[.int .i64 2, .int .i64 0, .string { data := #[] }]) ∧ Below w.heap.size w w' := by
  go_enter Tryd.func24, Tryd.ntmps24
  go_wp2_with ((go_at_call 18; refine (rbool_0 _).mono ?_; rintro e w1 ⟨rfl, hb1⟩; obtain ⟨hc1, hf1⟩ := bcell hb1; have hz1 := hb1.size))
  exact bodyPost_ret (v := .agg #[.int .i64 2, .int .i64 0, .string { data := #[] }]) (by simp [results, Tryd.results24, go_sem, hc1]) rfl ⟨rfl, (by repeat (first | exact Below.refl _ _ | (refine kb_setCell ?_ (by first | (simp; done) | (simp <;> omega))) | apply kb_alloc | (refine keep_below ?_ hb1) | (refine keep_below ?_ hb2)))⟩

set_option maxHeartbeats 400000 in
theorem rsign_not20 (n : Int) (s : ByteArray) (h : ¬ n = 1) (w : World) :
    Calls Tryd.prog 24 #[.string { data := #[33] }, .agg #[.int .i64 2, .int .i64 n, .string s]] w fun e w' => e = .returned (.agg #[.int .i64 2, .int .i64 1, .string { data := #[] }]) ∧ Below w.heap.size w w' := by
  have h' : (n == 1) = false := by simpa using h
  have h'' : (n != 1) = true := by simpa using h
  go_enter Tryd.func24, Tryd.ntmps24
  go_wp2_with ((go_at_call 18; refine (rbool_1 _).mono ?_; rintro e w1 ⟨rfl, hb1⟩; obtain ⟨hc1, hf1⟩ := bcell hb1; have hz1 := hb1.size))
  exact bodyPost_ret (v := .agg #[.int .i64 2, .int .i64 1, .string { data := #[] }]) (by simp [results, Tryd.results24, go_sem, hc1]) rfl ⟨rfl, (by repeat (first | exact Below.refl _ _ | (refine kb_setCell ?_ (by first | (simp; done) | (simp <;> omega))) | apply kb_alloc | (refine keep_below ?_ hb1) | (refine keep_below ?_ hb2)))⟩

set_option maxHeartbeats 400000 in
theorem rsign_not (t n : Int) (s : ByteArray) (h : ¬ t = 2) (w : World) :
    Calls Tryd.prog 24 #[.string { data := #[33] }, .agg #[.int .i64 t, .int .i64 n, .string s]] w fun e w' => e = .returned (.agg #[.int .i64 0, .int .i64 0, .string { data := #[] }]) ∧ Below w.heap.size w w' := by
  have h' : (t == 2) = false := by simpa using h
  go_enter Tryd.func24, Tryd.ntmps24
  go_wp2
  exact bodyPost_ret (v := .agg #[.int .i64 0, .int .i64 0, .string { data := #[] }]) (by simp [results, Tryd.results24, go_sem]) rfl ⟨rfl, (by repeat (first | exact Below.refl _ _ | (refine kb_setCell ?_ (by first | (simp; done) | (simp <;> omega))) | apply kb_alloc | (refine keep_below ?_ hb1) | (refine keep_below ?_ hb2)))⟩

set_option maxHeartbeats 400000 in
theorem rsign_ask (t n : Int) (s : ByteArray) (w : World) :
    Calls Tryd.prog 24 #[.string { data := #[63] }, .agg #[.int .i64 t, .int .i64 n, .string s]] w fun e w' => e = .returned (.agg #[.int .i64 0, .int .i64 0, .string { data := #[] }]) ∧ Below w.heap.size w w' := by
  go_enter Tryd.func24, Tryd.ntmps24
  go_wp2
  exact bodyPost_ret (v := .agg #[.int .i64 0, .int .i64 0, .string { data := #[] }]) (by simp [results, Tryd.results24, go_sem]) rfl ⟨rfl, (by repeat (first | exact Below.refl _ _ | (refine kb_setCell ?_ (by first | (simp; done) | (simp <;> omega))) | apply kb_alloc | (refine keep_below ?_ hb1) | (refine keep_below ?_ hb2)))⟩

set_option maxHeartbeats 400000 in
theorem cword_true (s : ByteArray) (w : World) :
    Calls Tryd.prog 27 #[.agg #[.int .i64 2, .int .i64 1, .string s]] w fun e w' => e = .returned (.string { data := #[116, 114, 117, 101] }) ∧ Below w.heap.size w w' := by
  go_enter Tryd.func27, Tryd.ntmps27
  go_wp2
  go_ret
  exact ⟨rfl, (by repeat (first | exact Below.refl _ _ | (refine kb_setCell ?_ (by first | (simp; done) | (simp <;> omega))) | apply kb_alloc | (refine keep_below ?_ hb1) | (refine keep_below ?_ hb2)))⟩

set_option maxHeartbeats 400000 in
theorem cword_false (n : Int) (s : ByteArray) (h : ¬ n = 1) (w : World) :
    Calls Tryd.prog 27 #[.agg #[.int .i64 2, .int .i64 n, .string s]] w fun e w' => e = .returned (.string { data := #[102, 97, 108, 115, 101] }) ∧ Below w.heap.size w w' := by
  have h' : (n == 1) = false := by simpa using h
  go_enter Tryd.func27, Tryd.ntmps27
  go_wp2
  go_ret
  exact ⟨rfl, (by repeat (first | exact Below.refl _ _ | (refine kb_setCell ?_ (by first | (simp; done) | (simp <;> omega))) | apply kb_alloc | (refine keep_below ?_ hb1) | (refine keep_below ?_ hb2)))⟩

set_option maxHeartbeats 400000 in
theorem cword_text (n : Int) (s : ByteArray) (w : World) :
    Calls Tryd.prog 27 #[.agg #[.int .i64 3, .int .i64 n, .string s]] w fun e w' => e = .returned (.string s) ∧ Below w.heap.size w w' := by
  go_enter Tryd.func27, Tryd.ntmps27
  go_wp2
  go_ret
  exact ⟨rfl, (by repeat (first | exact Below.refl _ _ | (refine kb_setCell ?_ (by first | (simp; done) | (simp <;> omega))) | apply kb_alloc | (refine keep_below ?_ hb1) | (refine keep_below ?_ hb2)))⟩

set_option maxHeartbeats 400000 in
theorem cword_list (n : Int) (s : ByteArray) (w : World) :
    Calls Tryd.prog 27 #[.agg #[.int .i64 4, .int .i64 n, .string s]] w fun e w' => e = .returned (.string { data := #[108, 105, 115, 116] }) ∧ Below w.heap.size w w' := by
  go_enter Tryd.func27, Tryd.ntmps27
  go_wp2
  go_ret
  exact ⟨rfl, (by repeat (first | exact Below.refl _ _ | (refine kb_setCell ?_ (by first | (simp; done) | (simp <;> omega))) | apply kb_alloc | (refine keep_below ?_ hb1) | (refine keep_below ?_ hb2)))⟩

set_option maxHeartbeats 400000 in
theorem cword_none (t n : Int) (s : ByteArray) (h1 : ¬ t = 1) (h2 : ¬ t = 2) (h3 : ¬ t = 3) (h4 : ¬ t = 4) (w : World) :
    Calls Tryd.prog 27 #[.agg #[.int .i64 t, .int .i64 n, .string s]] w fun e w' => e = .returned (.string { data := #[] }) ∧ Below w.heap.size w w' := by
  have h1' : (t == 1) = false := by simpa using h1
  have h2' : (t == 2) = false := by simpa using h2
  have h3' : (t == 3) = false := by simpa using h3
  have h4' : (t == 4) = false := by simpa using h4
  go_enter Tryd.func27, Tryd.ntmps27
  go_wp2
  go_ret
  exact ⟨rfl, (by repeat (first | exact Below.refl _ _ | (refine kb_setCell ?_ (by first | (simp; done) | (simp <;> omega))) | apply kb_alloc | (refine keep_below ?_ hb1) | (refine keep_below ?_ hb2)))⟩

set_option maxHeartbeats 400000 in
theorem rword_true (s : ByteArray) (w : World) :
    Calls Tryd.prog 28 #[.agg #[.int .i64 2, .int .i64 1, .string s]] w fun e w' => e = .returned (.string { data := #[116, 114, 117, 101] }) ∧ Below w.heap.size w w' := by
  go_enter Tryd.func28, Tryd.ntmps28
  go_wp2
  go_ret
  exact ⟨rfl, (by repeat (first | exact Below.refl _ _ | (refine kb_setCell ?_ (by first | (simp; done) | (simp <;> omega))) | apply kb_alloc | (refine keep_below ?_ hb1) | (refine keep_below ?_ hb2)))⟩

set_option maxHeartbeats 400000 in
theorem rword_false (n : Int) (s : ByteArray) (h : ¬ n = 1) (w : World) :
    Calls Tryd.prog 28 #[.agg #[.int .i64 2, .int .i64 n, .string s]] w fun e w' => e = .returned (.string { data := #[102, 97, 108, 115, 101] }) ∧ Below w.heap.size w w' := by
  have h' : (n == 1) = false := by simpa using h
  go_enter Tryd.func28, Tryd.ntmps28
  go_wp2
  go_ret
  exact ⟨rfl, (by repeat (first | exact Below.refl _ _ | (refine kb_setCell ?_ (by first | (simp; done) | (simp <;> omega))) | apply kb_alloc | (refine keep_below ?_ hb1) | (refine keep_below ?_ hb2)))⟩

set_option maxHeartbeats 400000 in
theorem rword_text (n : Int) (s : ByteArray) (w : World) :
    Calls Tryd.prog 28 #[.agg #[.int .i64 3, .int .i64 n, .string s]] w fun e w' => e = .returned (.string s) ∧ Below w.heap.size w w' := by
  go_enter Tryd.func28, Tryd.ntmps28
  go_wp2
  go_ret
  exact ⟨rfl, (by repeat (first | exact Below.refl _ _ | (refine kb_setCell ?_ (by first | (simp; done) | (simp <;> omega))) | apply kb_alloc | (refine keep_below ?_ hb1) | (refine keep_below ?_ hb2)))⟩

set_option maxHeartbeats 400000 in
theorem rword_list (n : Int) (s : ByteArray) (w : World) :
    Calls Tryd.prog 28 #[.agg #[.int .i64 4, .int .i64 n, .string s]] w fun e w' => e = .returned (.string { data := #[108, 105, 115, 116] }) ∧ Below w.heap.size w w' := by
  go_enter Tryd.func28, Tryd.ntmps28
  go_wp2
  go_ret
  exact ⟨rfl, (by repeat (first | exact Below.refl _ _ | (refine kb_setCell ?_ (by first | (simp; done) | (simp <;> omega))) | apply kb_alloc | (refine keep_below ?_ hb1) | (refine keep_below ?_ hb2)))⟩

set_option maxHeartbeats 400000 in
theorem rword_none (t n : Int) (s : ByteArray) (h1 : ¬ t = 1) (h2 : ¬ t = 2) (h3 : ¬ t = 3) (h4 : ¬ t = 4) (w : World) :
    Calls Tryd.prog 28 #[.agg #[.int .i64 t, .int .i64 n, .string s]] w fun e w' => e = .returned (.string { data := #[] }) ∧ Below w.heap.size w w' := by
  have h1' : (t == 1) = false := by simpa using h1
  have h2' : (t == 2) = false := by simpa using h2
  have h3' : (t == 3) = false := by simpa using h3
  have h4' : (t == 4) = false := by simpa using h4
  go_enter Tryd.func28, Tryd.ntmps28
  go_wp2
  go_ret
  exact ⟨rfl, (by repeat (first | exact Below.refl _ _ | (refine kb_setCell ?_ (by first | (simp; done) | (simp <;> omega))) | apply kb_alloc | (refine keep_below ?_ hb1) | (refine keep_below ?_ hb2)))⟩

theorem rword_int (n : Int) (s : ByteArray) (h0 : -9223372036854775808 ≤ n) (h1 : n ≤ 9223372036854775807) (w : World) (ht : TabW w) :
    Calls Tryd.prog 28 #[.agg #[.int .i64 1, .int .i64 n, .string s]] w fun e w' => e = .returned (.string (numS n)) ∧ Below w.heap.size w w' := by
  have HC := Lib.hid (fun o => itoa_any n h0 h1 (w.alloc o) (ht.below ((Below.refl _ _).alloc (Nat.le_refl _) o) ht.2))
  clear h0 h1 ht
  go_enter Tryd.func28, Tryd.ntmps28
  go_wp2_with (go_at_call 35; refine (HC.out _).mono ?_; rintro e w1 ⟨rfl, hb1⟩; have HB := Lib.hid hb1; clear hb1)
  go_ret
  exact ⟨rfl, ((Below.refl _ _).alloc (Nat.le_refl _) _).trans (HB.out.mono (by simp))⟩

theorem rquoted_text (n : Int) (s : ByteArray) (hs : s.size ≤ 60) (w : World) :
    Calls Tryd.prog 30 #[.agg #[.int .i64 3, .int .i64 n, .string s]] w fun e w' => e = .returned (.string (quoS s)) ∧ Below w.heap.size w w' := by
  go_enter Tryd.func30, Tryd.ntmps30
  go_wp2
  go_ret
  exact ⟨rfl, (Below.refl _ _).alloc (Nat.le_refl _) _⟩

theorem rquoted_other (t n : Int) (s x : ByteArray) (ht : ¬ t = 3) (w : World) (hT : TabW w)
    (WC : ∀ w, TabW w → Calls Tryd.prog 28 #[.agg #[.int .i64 t, .int .i64 n, .string s]] w fun e w' => e = .returned (.string x) ∧ Below w.heap.size w w') :
    Calls Tryd.prog 30 #[.agg #[.int .i64 t, .int .i64 n, .string s]] w fun e w' => e = .returned (.string x) ∧ Below w.heap.size w w' := by
  have HC := Lib.hid (fun o => WC (w.alloc o) (hT.below ((Below.refl _ _).alloc (Nat.le_refl _) o) hT.2))
  have ht' : (t == 3) = false := by simpa using ht
  clear hT WC
  go_enter Tryd.func30, Tryd.ntmps30
  go_wp2_with (go_at_call 28; refine (HC.out _).mono ?_; rintro e w1 ⟨rfl, hb1⟩; have HB := Lib.hid hb1; clear hb1)
  go_ret
  exact ⟨rfl, ((Below.refl _ _).alloc (Nat.le_refl _) _).trans (HB.out.mono (by simp))⟩

set_option maxHeartbeats 400000 in
theorem rmay_int (n : Int) (s : ByteArray) (w : World) :
    Calls Tryd.prog 26 #[.agg #[.int .i64 1, .int .i64 n, .string s]] w fun e w' => e = .returned (.bool (s.toList.isEmpty)) ∧ Below w.heap.size w w' := by
  go_enter Tryd.func26, Tryd.ntmps26
  go_wp2
  go_ret
  exact ⟨rfl, (by repeat (first | exact Below.refl _ _ | (refine kb_setCell ?_ (by first | (simp; done) | (simp <;> omega))) | apply kb_alloc | (refine keep_below ?_ hb1) | (refine keep_below ?_ hb2)))⟩

set_option maxHeartbeats 400000 in
theorem rmay_bool0 (w : World) :
    Calls Tryd.prog 26 #[.agg #[.int .i64 2, .int .i64 0, .string { data := #[] }]] w fun e w' => e = .returned (.bool true) ∧ Below w.heap.size w w' := by
  go_enter Tryd.func26, Tryd.ntmps26
  go_wp2
  go_ret
  exact ⟨rfl, (by repeat (first | exact Below.refl _ _ | (refine kb_setCell ?_ (by first | (simp; done) | (simp <;> omega))) | apply kb_alloc | (refine keep_below ?_ hb1) | (refine keep_below ?_ hb2)))⟩

set_option maxHeartbeats 400000 in
theorem rmay_bool1 (w : World) :
    Calls Tryd.prog 26 #[.agg #[.int .i64 2, .int .i64 1, .string { data := #[] }]] w fun e w' => e = .returned (.bool true) ∧ Below w.heap.size w w' := by
  go_enter Tryd.func26, Tryd.ntmps26
  go_wp2
  go_ret
  exact ⟨rfl, (by repeat (first | exact Below.refl _ _ | (refine kb_setCell ?_ (by first | (simp; done) | (simp <;> omega))) | apply kb_alloc | (refine keep_below ?_ hb1) | (refine keep_below ?_ hb2)))⟩

set_option maxHeartbeats 400000 in
theorem rmay_boolN (n : Int) (h0 : ¬ n = 0) (h1 : ¬ n = 1) (w : World) :
    Calls Tryd.prog 26 #[.agg #[.int .i64 2, .int .i64 n, .string { data := #[] }]] w fun e w' => e = .returned (.bool false) ∧ Below w.heap.size w w' := by
  have h0' : (n == 0) = false := by simpa using h0
  have h1' : (n == 1) = false := by simpa using h1
  go_enter Tryd.func26, Tryd.ntmps26
  go_wp2
  go_ret
  exact ⟨rfl, (by repeat (first | exact Below.refl _ _ | (refine kb_setCell ?_ (by first | (simp; done) | (simp <;> omega))) | apply kb_alloc | (refine keep_below ?_ hb1) | (refine keep_below ?_ hb2)))⟩

set_option maxHeartbeats 400000 in
theorem rmay_boolS (n : Int) (s : ByteArray) (hs : s.toList.isEmpty = false) (w : World) :
    Calls Tryd.prog 26 #[.agg #[.int .i64 2, .int .i64 n, .string s]] w fun e w' => e = .returned (.bool false) ∧ Below w.heap.size w w' := by
  go_enter Tryd.func26, Tryd.ntmps26
  go_wp2
  go_ret
  exact ⟨rfl, (by repeat (first | exact Below.refl _ _ | (refine kb_setCell ?_ (by first | (simp; done) | (simp <;> omega))) | apply kb_alloc | (refine keep_below ?_ hb1) | (refine keep_below ?_ hb2)))⟩

set_option maxHeartbeats 400000 in
theorem rmay_text (s : ByteArray) (w : World) :
    Calls Tryd.prog 26 #[.agg #[.int .i64 3, .int .i64 0, .string s]] w fun e w' => e = .returned (.bool (decide ((s.size : Int) ≤ 40))) ∧ Below w.heap.size w w' := by
  go_enter Tryd.func26, Tryd.ntmps26
  go_wp2
  go_ret
  exact ⟨rfl, (by repeat (first | exact Below.refl _ _ | (refine kb_setCell ?_ (by first | (simp; done) | (simp <;> omega))) | apply kb_alloc | (refine keep_below ?_ hb1) | (refine keep_below ?_ hb2)))⟩

set_option maxHeartbeats 400000 in
theorem rmay_textN (n : Int) (s : ByteArray) (h : ¬ n = 0) (w : World) :
    Calls Tryd.prog 26 #[.agg #[.int .i64 3, .int .i64 n, .string s]] w fun e w' => e = .returned (.bool false) ∧ Below w.heap.size w w' := by
  have h' : (n == 0) = false := by simpa using h
  go_enter Tryd.func26, Tryd.ntmps26
  go_wp2
  go_ret
  exact ⟨rfl, (by repeat (first | exact Below.refl _ _ | (refine kb_setCell ?_ (by first | (simp; done) | (simp <;> omega))) | apply kb_alloc | (refine keep_below ?_ hb1) | (refine keep_below ?_ hb2)))⟩

set_option maxHeartbeats 400000 in
theorem rmay_list (n : Int) (h0 : 0 ≤ n) (w : World) :
    Calls Tryd.prog 26 #[.agg #[.int .i64 4, .int .i64 n, .string { data := #[] }]] w fun e w' => e = .returned (.bool true) ∧ Below w.heap.size w w' := by
  go_enter Tryd.func26, Tryd.ntmps26
  go_wp2
  go_ret
  exact ⟨rfl, (by repeat (first | exact Below.refl _ _ | (refine kb_setCell ?_ (by first | (simp; done) | (simp <;> omega))) | apply kb_alloc | (refine keep_below ?_ hb1) | (refine keep_below ?_ hb2)))⟩

set_option maxHeartbeats 400000 in
theorem rmay_listL (n : Int) (h0 : ¬ 0 ≤ n) (w : World) :
    Calls Tryd.prog 26 #[.agg #[.int .i64 4, .int .i64 n, .string { data := #[] }]] w fun e w' => e = .returned (.bool false) ∧ Below w.heap.size w w' := by
  have h0' : decide (0 ≤ n) = false := by simpa using h0
  go_enter Tryd.func26, Tryd.ntmps26
  go_wp2
  go_ret
  exact ⟨rfl, (by repeat (first | exact Below.refl _ _ | (refine kb_setCell ?_ (by first | (simp; done) | (simp <;> omega))) | apply kb_alloc | (refine keep_below ?_ hb1) | (refine keep_below ?_ hb2)))⟩

set_option maxHeartbeats 400000 in
theorem rmay_listS (n : Int) (s : ByteArray) (hs : s.toList.isEmpty = false) (w : World) :
    Calls Tryd.prog 26 #[.agg #[.int .i64 4, .int .i64 n, .string s]] w fun e w' => e = .returned (.bool false) ∧ Below w.heap.size w w' := by
  go_enter Tryd.func26, Tryd.ntmps26
  go_wp2
  go_ret
  exact ⟨rfl, (by repeat (first | exact Below.refl _ _ | (refine kb_setCell ?_ (by first | (simp; done) | (simp <;> omega))) | apply kb_alloc | (refine keep_below ?_ hb1) | (refine keep_below ?_ hb2)))⟩

set_option maxHeartbeats 400000 in
theorem rmay_none (t n : Int) (s : ByteArray) (h1 : ¬ t = 1) (h2 : ¬ t = 2) (h3 : ¬ t = 3) (h4 : ¬ t = 4) (w : World) :
    Calls Tryd.prog 26 #[.agg #[.int .i64 t, .int .i64 n, .string s]] w fun e w' => e = .returned (.bool false) ∧ Below w.heap.size w w' := by
  have h1' : (t == 1) = false := by simpa using h1
  have h2' : (t == 2) = false := by simpa using h2
  have h3' : (t == 3) = false := by simpa using h3
  have h4' : (t == 4) = false := by simpa using h4
  go_enter Tryd.func26, Tryd.ntmps26
  go_wp2
  go_ret
  exact ⟨rfl, (by repeat (first | exact Below.refl _ _ | (refine kb_setCell ?_ (by first | (simp; done) | (simp <;> omega))) | apply kb_alloc | (refine keep_below ?_ hb1) | (refine keep_below ?_ hb2)))⟩
end Go.Proofs.YtpighdioomjnmaaDoor.textsof
