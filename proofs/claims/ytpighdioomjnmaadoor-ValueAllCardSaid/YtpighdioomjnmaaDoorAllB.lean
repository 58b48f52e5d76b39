/-
  Layer 5: contracts of the document's answer for two values. Written by an AI agent.
-/
import Derived.Test.YtpighdioomjnmaaDoorAllA
import Derived.IntWalk
namespace Go.Proofs.YtpighdioomjnmaaDoor.textsof
open Go.RowKit Go.Proofs.YtpighdioomjnmaaDoor.logic
set_option linter.unusedVariables false
set_option linter.unusedSimpArgs false

set_option maxHeartbeats 400000 in
theorem rbin_types (g : ByteArray) (t x n m : Int) (s u : ByteArray) (h : ¬ t = x) (w : World) :
    Calls Tryd.prog 14 #[.string g, .agg #[.int .i64 t, .int .i64 n, .string s], .agg #[.int .i64 x, .int .i64 m, .string u]] w fun e w' => e = .returned (.tuple #[.agg #[.int .i64 0, .int .i64 0, .string { data := #[] }], .int .i64 0]) ∧ Below w.heap.size w w' := by
  have h0 : (t == x) = false := by simpa using h
  go_enter Tryd.func14, Tryd.ntmps14
  go_wp2
  exact bodyPost_ret (v := .tuple #[.agg #[.int .i64 0, .int .i64 0, .string { data := #[] }], .int .i64 0]) (by simp [results, Tryd.results14, go_sem]) rfl ⟨rfl, (by repeat (first | exact Below.refl _ _ | (refine kb_setCell ?_ (by simp; omega)) | (refine kb_setCell ?_ (by simp)) | apply kb_alloc | (refine keep_below ?_ hb1) | (refine keep_below ?_ hb2)))⟩

set_option maxHeartbeats 400000 in
theorem rbin_lo (g : ByteArray) (t n m : Int) (s u : ByteArray) (h : t < 1) (w : World) :
    Calls Tryd.prog 14 #[.string g, .agg #[.int .i64 t, .int .i64 n, .string s], .agg #[.int .i64 t, .int .i64 m, .string u]] w fun e w' => e = .returned (.tuple #[.agg #[.int .i64 0, .int .i64 0, .string { data := #[] }], .int .i64 0]) ∧ Below w.heap.size w w' := by
  go_enter Tryd.func14, Tryd.ntmps14
  go_wp2
  exact bodyPost_ret (v := .tuple #[.agg #[.int .i64 0, .int .i64 0, .string { data := #[] }], .int .i64 0]) (by simp [results, Tryd.results14, go_sem]) rfl ⟨rfl, (by repeat (first | exact Below.refl _ _ | (refine kb_setCell ?_ (by simp; omega)) | (refine kb_setCell ?_ (by simp)) | apply kb_alloc | (refine keep_below ?_ hb1) | (refine keep_below ?_ hb2)))⟩

set_option maxHeartbeats 400000 in
theorem rbin_hi (g : ByteArray) (t n m : Int) (s u : ByteArray) (h : 4 < t) (w : World) :
    Calls Tryd.prog 14 #[.string g, .agg #[.int .i64 t, .int .i64 n, .string s], .agg #[.int .i64 t, .int .i64 m, .string u]] w fun e w' => e = .returned (.tuple #[.agg #[.int .i64 0, .int .i64 0, .string { data := #[] }], .int .i64 0]) ∧ Below w.heap.size w w' := by
  have h1 : ¬ t < 1 := by omega
  go_enter Tryd.func14, Tryd.ntmps14
  go_wp2
  exact bodyPost_ret (v := .tuple #[.agg #[.int .i64 0, .int .i64 0, .string { data := #[] }], .int .i64 0]) (by simp [results, Tryd.results14, go_sem]) rfl ⟨rfl, (by repeat (first | exact Below.refl _ _ | (refine kb_setCell ?_ (by simp; omega)) | (refine kb_setCell ?_ (by simp)) | apply kb_alloc | (refine keep_below ?_ hb1) | (refine keep_below ?_ hb2)))⟩

set_option maxHeartbeats 400000 in
theorem rbin_eq (t n : Int) (s u : ByteArray) (h1 : 1 ≤ t) (h4 : t ≤ 4) (w : World) :
    Calls Tryd.prog 14 #[.string { data := #[61, 61] }, .agg #[.int .i64 t, .int .i64 n, .string s], .agg #[.int .i64 t, .int .i64 n, .string u]] w fun e w' => e = .returned (.tuple #[.agg #[.int .i64 2, .int .i64 (bN ((s.toList == u.toList))), .string { data := #[] }], .int .i64 0]) ∧ Below w.heap.size w w' := by
  have e1 : ¬ t < 1 := by omega
  have e4 : ¬ 4 < t := by omega
  go_enter Tryd.func14, Tryd.ntmps14
  go_wp2_with ((go_at_call 18; refine (rbool_any _ _).mono ?_; rintro e w1 ⟨rfl, hb1⟩; obtain ⟨hc1, hf1⟩ := bcell hb1; have hz1 := hb1.size))
  exact bodyPost_ret (v := .tuple #[.agg #[.int .i64 2, .int .i64 (bN ((s.toList == u.toList))), .string { data := #[] }], .int .i64 0]) (by simp [results, Tryd.results14, go_sem, hc1]) rfl ⟨rfl, (by repeat (first | exact Below.refl _ _ | (refine kb_setCell ?_ (by simp; omega)) | (refine kb_setCell ?_ (by simp)) | apply kb_alloc | (refine keep_below ?_ hb1) | (refine keep_below ?_ hb2)))⟩

set_option maxHeartbeats 400000 in
theorem rbin_eqN (t n m : Int) (s u : ByteArray) (h1 : 1 ≤ t) (h4 : t ≤ 4) (hnm : ¬ n = m) (w : World) :
    Calls Tryd.prog 14 #[.string { data := #[61, 61] }, .agg #[.int .i64 t, .int .i64 n, .string s], .agg #[.int .i64 t, .int .i64 m, .string u]] w fun e w' => e = .returned (.tuple #[.agg #[.int .i64 2, .int .i64 (bN ((false))), .string { data := #[] }], .int .i64 0]) ∧ Below w.heap.size w w' := by
  have e1 : ¬ t < 1 := by omega
  have e4 : ¬ 4 < t := by omega
  have hn' : (n == m) = false := by simpa using hnm
  go_enter Tryd.func14, Tryd.ntmps14
  go_wp2_with ((go_at_call 18; refine (rbool_any _ _).mono ?_; rintro e w1 ⟨rfl, hb1⟩; obtain ⟨hc1, hf1⟩ := bcell hb1; have hz1 := hb1.size))
  exact bodyPost_ret (v := .tuple #[.agg #[.int .i64 2, .int .i64 (bN ((false))), .string { data := #[] }], .int .i64 0]) (by simp [results, Tryd.results14, go_sem, hc1]) rfl ⟨rfl, (by repeat (first | exact Below.refl _ _ | (refine kb_setCell ?_ (by simp; omega)) | (refine kb_setCell ?_ (by simp)) | apply kb_alloc | (refine keep_below ?_ hb1) | (refine keep_below ?_ hb2)))⟩

set_option maxHeartbeats 400000 in
theorem rbin_ne (t n : Int) (s u : ByteArray) (h1 : 1 ≤ t) (h4 : t ≤ 4) (w : World) :
    Calls Tryd.prog 14 #[.string { data := #[33, 61] }, .agg #[.int .i64 t, .int .i64 n, .string s], .agg #[.int .i64 t, .int .i64 n, .string u]] w fun e w' => e = .returned (.tuple #[.agg #[.int .i64 2, .int .i64 (bN (!(s.toList == u.toList))), .string { data := #[] }], .int .i64 0]) ∧ Below w.heap.size w w' := by
  have e1 : ¬ t < 1 := by omega
  have e4 : ¬ 4 < t := by omega
  go_enter Tryd.func14, Tryd.ntmps14
  go_wp2_with ((go_at_call 18; refine (rbool_any _ _).mono ?_; rintro e w1 ⟨rfl, hb1⟩; obtain ⟨hc1, hf1⟩ := bcell hb1; have hz1 := hb1.size))
  exact bodyPost_ret (v := .tuple #[.agg #[.int .i64 2, .int .i64 (bN (!(s.toList == u.toList))), .string { data := #[] }], .int .i64 0]) (by simp [results, Tryd.results14, go_sem, hc1]) rfl ⟨rfl, (by repeat (first | exact Below.refl _ _ | (refine kb_setCell ?_ (by simp; omega)) | (refine kb_setCell ?_ (by simp)) | apply kb_alloc | (refine keep_below ?_ hb1) | (refine keep_below ?_ hb2)))⟩

set_option maxHeartbeats 400000 in
theorem rbin_neN (t n m : Int) (s u : ByteArray) (h1 : 1 ≤ t) (h4 : t ≤ 4) (hnm : ¬ n = m) (w : World) :
    Calls Tryd.prog 14 #[.string { data := #[33, 61] }, .agg #[.int .i64 t, .int .i64 n, .string s], .agg #[.int .i64 t, .int .i64 m, .string u]] w fun e w' => e = .returned (.tuple #[.agg #[.int .i64 2, .int .i64 (bN (!(false))), .string { data := #[] }], .int .i64 0]) ∧ Below w.heap.size w w' := by
  have e1 : ¬ t < 1 := by omega
  have e4 : ¬ 4 < t := by omega
  have hn' : (n == m) = false := by simpa using hnm
  go_enter Tryd.func14, Tryd.ntmps14
  go_wp2_with ((go_at_call 18; refine (rbool_any _ _).mono ?_; rintro e w1 ⟨rfl, hb1⟩; obtain ⟨hc1, hf1⟩ := bcell hb1; have hz1 := hb1.size))
  exact bodyPost_ret (v := .tuple #[.agg #[.int .i64 2, .int .i64 (bN (!(false))), .string { data := #[] }], .int .i64 0]) (by simp [results, Tryd.results14, go_sem, hc1]) rfl ⟨rfl, (by repeat (first | exact Below.refl _ _ | (refine kb_setCell ?_ (by simp; omega)) | (refine kb_setCell ?_ (by simp)) | apply kb_alloc | (refine keep_below ?_ hb1) | (refine keep_below ?_ hb2)))⟩

set_option maxHeartbeats 400000 in
theorem rbin1_add (a b : Int) (s u : ByteArray) (w : World) :
    Calls Tryd.prog 14 #[.string { data := #[43] }, .agg #[.int .i64 1, .int .i64 a, .string s], .agg #[.int .i64 1, .int .i64 b, .string u]] w fun e w' => e = .returned (.tuple #[.agg #[.int .i64 1, .int .i64 (wrap64 (a + b)), .string { data := #[] }], .int .i64 0]) ∧ Below w.heap.size w w' := by
  go_enter Tryd.func14, Tryd.ntmps14
  go_wp2_with ((go_at_call 34; refine (rints_add _ _ _).mono ?_; rintro e w1 ⟨rfl, hb1⟩; obtain ⟨hc1, hf1⟩ := bcell hb1; have hz1 := hb1.size))
  exact bodyPost_ret (v := .tuple #[.agg #[.int .i64 1, .int .i64 (wrap64 (a + b)), .string { data := #[] }], .int .i64 0]) (by simp [results, Tryd.results14, go_sem, hc1]) rfl ⟨rfl, (by repeat (first | exact Below.refl _ _ | (refine kb_setCell ?_ (by simp; omega)) | (refine kb_setCell ?_ (by simp)) | apply kb_alloc | (refine keep_below ?_ hb1) | (refine keep_below ?_ hb2)))⟩

set_option maxHeartbeats 400000 in
theorem rbin1_sub (a b : Int) (s u : ByteArray) (w : World) :
    Calls Tryd.prog 14 #[.string { data := #[45] }, .agg #[.int .i64 1, .int .i64 a, .string s], .agg #[.int .i64 1, .int .i64 b, .string u]] w fun e w' => e = .returned (.tuple #[.agg #[.int .i64 1, .int .i64 (wrap64 (a - b)), .string { data := #[] }], .int .i64 0]) ∧ Below w.heap.size w w' := by
  go_enter Tryd.func14, Tryd.ntmps14
  go_wp2_with ((go_at_call 34; refine (rints_sub _ _ _).mono ?_; rintro e w1 ⟨rfl, hb1⟩; obtain ⟨hc1, hf1⟩ := bcell hb1; have hz1 := hb1.size))
  exact bodyPost_ret (v := .tuple #[.agg #[.int .i64 1, .int .i64 (wrap64 (a - b)), .string { data := #[] }], .int .i64 0]) (by simp [results, Tryd.results14, go_sem, hc1]) rfl ⟨rfl, (by repeat (first | exact Below.refl _ _ | (refine kb_setCell ?_ (by simp; omega)) | (refine kb_setCell ?_ (by simp)) | apply kb_alloc | (refine keep_below ?_ hb1) | (refine keep_below ?_ hb2)))⟩

set_option maxHeartbeats 400000 in
theorem rbin1_mul (a b : Int) (s u : ByteArray) (w : World) :
    Calls Tryd.prog 14 #[.string { data := #[42] }, .agg #[.int .i64 1, .int .i64 a, .string s], .agg #[.int .i64 1, .int .i64 b, .string u]] w fun e w' => e = .returned (.tuple #[.agg #[.int .i64 1, .int .i64 (wrap64 (a * b)), .string { data := #[] }], .int .i64 0]) ∧ Below w.heap.size w w' := by
  go_enter Tryd.func14, Tryd.ntmps14
  go_wp2_with ((go_at_call 34; refine (rints_mul _ _ _).mono ?_; rintro e w1 ⟨rfl, hb1⟩; obtain ⟨hc1, hf1⟩ := bcell hb1; have hz1 := hb1.size))
  exact bodyPost_ret (v := .tuple #[.agg #[.int .i64 1, .int .i64 (wrap64 (a * b)), .string { data := #[] }], .int .i64 0]) (by simp [results, Tryd.results14, go_sem, hc1]) rfl ⟨rfl, (by repeat (first | exact Below.refl _ _ | (refine kb_setCell ?_ (by simp; omega)) | (refine kb_setCell ?_ (by simp)) | apply kb_alloc | (refine keep_below ?_ hb1) | (refine keep_below ?_ hb2)))⟩

set_option maxHeartbeats 400000 in
theorem rbin1_lss (a b : Int) (s u : ByteArray) (w : World) :
    Calls Tryd.prog 14 #[.string { data := #[60] }, .agg #[.int .i64 1, .int .i64 a, .string s], .agg #[.int .i64 1, .int .i64 b, .string u]] w fun e w' => e = .returned (.tuple #[.agg #[.int .i64 2, .int .i64 (bN (decide (a < b))), .string { data := #[] }], .int .i64 0]) ∧ Below w.heap.size w w' := by
  go_enter Tryd.func14, Tryd.ntmps14
  go_wp2_with ((go_at_call 34; refine (rints_lss _ _ _).mono ?_; rintro e w1 ⟨rfl, hb1⟩; obtain ⟨hc1, hf1⟩ := bcell hb1; have hz1 := hb1.size))
  exact bodyPost_ret (v := .tuple #[.agg #[.int .i64 2, .int .i64 (bN (decide (a < b))), .string { data := #[] }], .int .i64 0]) (by simp [results, Tryd.results14, go_sem, hc1]) rfl ⟨rfl, (by repeat (first | exact Below.refl _ _ | (refine kb_setCell ?_ (by simp; omega)) | (refine kb_setCell ?_ (by simp)) | apply kb_alloc | (refine keep_below ?_ hb1) | (refine keep_below ?_ hb2)))⟩

set_option maxHeartbeats 400000 in
theorem rbin1_leq (a b : Int) (s u : ByteArray) (w : World) :
    Calls Tryd.prog 14 #[.string { data := #[60, 61] }, .agg #[.int .i64 1, .int .i64 a, .string s], .agg #[.int .i64 1, .int .i64 b, .string u]] w fun e w' => e = .returned (.tuple #[.agg #[.int .i64 2, .int .i64 (bN (decide (a ≤ b))), .string { data := #[] }], .int .i64 0]) ∧ Below w.heap.size w w' := by
  go_enter Tryd.func14, Tryd.ntmps14
  go_wp2_with ((go_at_call 34; refine (rints_leq _ _ _).mono ?_; rintro e w1 ⟨rfl, hb1⟩; obtain ⟨hc1, hf1⟩ := bcell hb1; have hz1 := hb1.size))
  exact bodyPost_ret (v := .tuple #[.agg #[.int .i64 2, .int .i64 (bN (decide (a ≤ b))), .string { data := #[] }], .int .i64 0]) (by simp [results, Tryd.results14, go_sem, hc1]) rfl ⟨rfl, (by repeat (first | exact Below.refl _ _ | (refine kb_setCell ?_ (by simp; omega)) | (refine kb_setCell ?_ (by simp)) | apply kb_alloc | (refine keep_below ?_ hb1) | (refine keep_below ?_ hb2)))⟩

set_option maxHeartbeats 400000 in
theorem rbin1_quo (a b : Int) (s u : ByteArray) (h1 : ¬ b = 0) (w : World) :
    Calls Tryd.prog 14 #[.string { data := #[47] }, .agg #[.int .i64 1, .int .i64 a, .string s], .agg #[.int .i64 1, .int .i64 b, .string u]] w fun e w' => e = .returned (.tuple #[.agg #[.int .i64 1, .int .i64 (wrap64 (a.tdiv b)), .string { data := #[] }], .int .i64 0]) ∧ Below w.heap.size w w' := by
  go_enter Tryd.func14, Tryd.ntmps14
  go_wp2_with ((go_at_call 34; refine (rints_quo _ _ h1 _).mono ?_; rintro e w1 ⟨rfl, hb1⟩; obtain ⟨hc1, hf1⟩ := bcell hb1; have hz1 := hb1.size))
  exact bodyPost_ret (v := .tuple #[.agg #[.int .i64 1, .int .i64 (wrap64 (a.tdiv b)), .string { data := #[] }], .int .i64 0]) (by simp [results, Tryd.results14, go_sem, hc1]) rfl ⟨rfl, (by repeat (first | exact Below.refl _ _ | (refine kb_setCell ?_ (by simp; omega)) | (refine kb_setCell ?_ (by simp)) | apply kb_alloc | (refine keep_below ?_ hb1) | (refine keep_below ?_ hb2)))⟩

set_option maxHeartbeats 400000 in
theorem rbin1_rem (a b : Int) (s u : ByteArray) (h1 : ¬ b = 0) (w : World) :
    Calls Tryd.prog 14 #[.string { data := #[37] }, .agg #[.int .i64 1, .int .i64 a, .string s], .agg #[.int .i64 1, .int .i64 b, .string u]] w fun e w' => e = .returned (.tuple #[.agg #[.int .i64 1, .int .i64 (a.tmod b), .string { data := #[] }], .int .i64 0]) ∧ Below w.heap.size w w' := by
  go_enter Tryd.func14, Tryd.ntmps14
  go_wp2_with ((go_at_call 34; refine (rints_rem _ _ h1 _).mono ?_; rintro e w1 ⟨rfl, hb1⟩; obtain ⟨hc1, hf1⟩ := bcell hb1; have hz1 := hb1.size))
  exact bodyPost_ret (v := .tuple #[.agg #[.int .i64 1, .int .i64 (a.tmod b), .string { data := #[] }], .int .i64 0]) (by simp [results, Tryd.results14, go_sem, hc1]) rfl ⟨rfl, (by repeat (first | exact Below.refl _ _ | (refine kb_setCell ?_ (by simp; omega)) | (refine kb_setCell ?_ (by simp)) | apply kb_alloc | (refine keep_below ?_ hb1) | (refine keep_below ?_ hb2)))⟩

set_option maxHeartbeats 400000 in
theorem rbin1_quo0 (a : Int) (s u : ByteArray) (w : World) :
    Calls Tryd.prog 14 #[.string { data := #[47] }, .agg #[.int .i64 1, .int .i64 a, .string s], .agg #[.int .i64 1, .int .i64 0, .string u]] w fun e w' => e = .returned (.tuple #[.agg #[.int .i64 0, .int .i64 0, .string { data := #[] }], .int .i64 1]) ∧ Below w.heap.size w w' := by
  go_enter Tryd.func14, Tryd.ntmps14
  go_wp2_with ((go_at_call 34; refine (rints_quo0 _ _).mono ?_; rintro e w1 ⟨rfl, hb1⟩; obtain ⟨hc1, hf1⟩ := bcell hb1; have hz1 := hb1.size))
  exact bodyPost_ret (v := .tuple #[.agg #[.int .i64 0, .int .i64 0, .string { data := #[] }], .int .i64 1]) (by simp [results, Tryd.results14, go_sem, hc1]) rfl ⟨rfl, (by repeat (first | exact Below.refl _ _ | (refine kb_setCell ?_ (by simp; omega)) | (refine kb_setCell ?_ (by simp)) | apply kb_alloc | (refine keep_below ?_ hb1) | (refine keep_below ?_ hb2)))⟩

set_option maxHeartbeats 400000 in
theorem rbin1_rem0 (a : Int) (s u : ByteArray) (w : World) :
    Calls Tryd.prog 14 #[.string { data := #[37] }, .agg #[.int .i64 1, .int .i64 a, .string s], .agg #[.int .i64 1, .int .i64 0, .string u]] w fun e w' => e = .returned (.tuple #[.agg #[.int .i64 0, .int .i64 0, .string { data := #[] }], .int .i64 1]) ∧ Below w.heap.size w w' := by
  go_enter Tryd.func14, Tryd.ntmps14
  go_wp2_with ((go_at_call 34; refine (rints_rem0 _ _).mono ?_; rintro e w1 ⟨rfl, hb1⟩; obtain ⟨hc1, hf1⟩ := bcell hb1; have hz1 := hb1.size))
  exact bodyPost_ret (v := .tuple #[.agg #[.int .i64 0, .int .i64 0, .string { data := #[] }], .int .i64 1]) (by simp [results, Tryd.results14, go_sem, hc1]) rfl ⟨rfl, (by repeat (first | exact Below.refl _ _ | (refine kb_setCell ?_ (by simp; omega)) | (refine kb_setCell ?_ (by simp)) | apply kb_alloc | (refine keep_below ?_ hb1) | (refine keep_below ?_ hb2)))⟩

set_option maxHeartbeats 400000 in
theorem rbin1_or (a b : Int) (s u : ByteArray) (w : World) :
    Calls Tryd.prog 14 #[.string { data := #[124, 124] }, .agg #[.int .i64 1, .int .i64 a, .string s], .agg #[.int .i64 1, .int .i64 b, .string u]] w fun e w' => e = .returned (.tuple #[.agg #[.int .i64 0, .int .i64 0, .string { data := #[] }], .int .i64 0]) ∧ Below w.heap.size w w' := by
  go_enter Tryd.func14, Tryd.ntmps14
  go_wp2_with ((go_at_call 34; refine (rints_or _ _ _).mono ?_; rintro e w1 ⟨rfl, hb1⟩; obtain ⟨hc1, hf1⟩ := bcell hb1; have hz1 := hb1.size))
  exact bodyPost_ret (v := .tuple #[.agg #[.int .i64 0, .int .i64 0, .string { data := #[] }], .int .i64 0]) (by simp [results, Tryd.results14, go_sem, hc1]) rfl ⟨rfl, (by repeat (first | exact Below.refl _ _ | (refine kb_setCell ?_ (by simp; omega)) | (refine kb_setCell ?_ (by simp)) | apply kb_alloc | (refine keep_below ?_ hb1) | (refine keep_below ?_ hb2)))⟩

set_option maxHeartbeats 400000 in
theorem rbin1_and (a b : Int) (s u : ByteArray) (w : World) :
    Calls Tryd.prog 14 #[.string { data := #[38, 38] }, .agg #[.int .i64 1, .int .i64 a, .string s], .agg #[.int .i64 1, .int .i64 b, .string u]] w fun e w' => e = .returned (.tuple #[.agg #[.int .i64 0, .int .i64 0, .string { data := #[] }], .int .i64 0]) ∧ Below w.heap.size w w' := by
  go_enter Tryd.func14, Tryd.ntmps14
  go_wp2_with ((go_at_call 34; refine (rints_and _ _ _).mono ?_; rintro e w1 ⟨rfl, hb1⟩; obtain ⟨hc1, hf1⟩ := bcell hb1; have hz1 := hb1.size))
  exact bodyPost_ret (v := .tuple #[.agg #[.int .i64 0, .int .i64 0, .string { data := #[] }], .int .i64 0]) (by simp [results, Tryd.results14, go_sem, hc1]) rfl ⟨rfl, (by repeat (first | exact Below.refl _ _ | (refine kb_setCell ?_ (by simp; omega)) | (refine kb_setCell ?_ (by simp)) | apply kb_alloc | (refine keep_below ?_ hb1) | (refine keep_below ?_ hb2)))⟩

set_option maxHeartbeats 400000 in
theorem rbin1_not (a b : Int) (s u : ByteArray) (w : World) :
    Calls Tryd.prog 14 #[.string { data := #[33] }, .agg #[.int .i64 1, .int .i64 a, .string s], .agg #[.int .i64 1, .int .i64 b, .string u]] w fun e w' => e = .returned (.tuple #[.agg #[.int .i64 0, .int .i64 0, .string { data := #[] }], .int .i64 0]) ∧ Below w.heap.size w w' := by
  go_enter Tryd.func14, Tryd.ntmps14
  go_wp2_with ((go_at_call 34; refine (rints_not _ _ _).mono ?_; rintro e w1 ⟨rfl, hb1⟩; obtain ⟨hc1, hf1⟩ := bcell hb1; have hz1 := hb1.size))
  exact bodyPost_ret (v := .tuple #[.agg #[.int .i64 0, .int .i64 0, .string { data := #[] }], .int .i64 0]) (by simp [results, Tryd.results14, go_sem, hc1]) rfl ⟨rfl, (by repeat (first | exact Below.refl _ _ | (refine kb_setCell ?_ (by simp; omega)) | (refine kb_setCell ?_ (by simp)) | apply kb_alloc | (refine keep_below ?_ hb1) | (refine keep_below ?_ hb2)))⟩

set_option maxHeartbeats 400000 in
theorem rbin1_ask (a b : Int) (s u : ByteArray) (w : World) :
    Calls Tryd.prog 14 #[.string { data := #[63] }, .agg #[.int .i64 1, .int .i64 a, .string s], .agg #[.int .i64 1, .int .i64 b, .string u]] w fun e w' => e = .returned (.tuple #[.agg #[.int .i64 0, .int .i64 0, .string { data := #[] }], .int .i64 0]) ∧ Below w.heap.size w w' := by
  go_enter Tryd.func14, Tryd.ntmps14
  go_wp2_with ((go_at_call 34; refine (rints_ask _ _ _).mono ?_; rintro e w1 ⟨rfl, hb1⟩; obtain ⟨hc1, hf1⟩ := bcell hb1; have hz1 := hb1.size))
  exact bodyPost_ret (v := .tuple #[.agg #[.int .i64 0, .int .i64 0, .string { data := #[] }], .int .i64 0]) (by simp [results, Tryd.results14, go_sem, hc1]) rfl ⟨rfl, (by repeat (first | exact Below.refl _ _ | (refine kb_setCell ?_ (by simp; omega)) | (refine kb_setCell ?_ (by simp)) | apply kb_alloc | (refine keep_below ?_ hb1) | (refine keep_below ?_ hb2)))⟩
end Go.Proofs.YtpighdioomjnmaaDoor.textsof
