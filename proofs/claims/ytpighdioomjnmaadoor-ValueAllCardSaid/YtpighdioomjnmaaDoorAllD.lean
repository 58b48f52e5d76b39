/-
  Layer 5: contracts of the document's answer for two values that are so or not, texts and lists. Written by an AI agent.
-/
import Derived.Test.YtpighdioomjnmaaDoorAllA
import Derived.IntWalk
namespace Go.Proofs.YtpighdioomjnmaaDoor.textsof
open Go.RowKit Go.Proofs.YtpighdioomjnmaaDoor.logic
set_option linter.unusedVariables false
set_option linter.unusedSimpArgs false

set_option maxHeartbeats 400000 in
theorem rbin2_or00 (a b : Int) (s u : ByteArray) (ha : ¬ a = 1) (hb : ¬ b = 1) (w : World) :
    Calls Tryd.prog 14 #[.string { data := #[124, 124] }, .agg #[.int .i64 2, .int .i64 a, .string s], .agg #[.int .i64 2, .int .i64 b, .string u]] w fun e w' => e = .returned (.tuple #[.agg #[.int .i64 2, .int .i64 0, .string { data := #[] }], .int .i64 0]) ∧ Below w.heap.size w w' := by
  have ha' : (a == 1) = false := by simpa using ha
  have hb' : (b == 1) = false := by simpa using hb
  go_enter Tryd.func14, Tryd.ntmps14
  go_wp2_with ((go_at_call 18; refine (rbool_0 _).mono ?_; rintro e w1 ⟨rfl, hb1⟩; obtain ⟨hc1, hf1⟩ := bcell hb1; have hz1 := hb1.size))
  exact bodyPost_ret (v := .tuple #[.agg #[.int .i64 2, .int .i64 0, .string { data := #[] }], .int .i64 0]) (by simp [results, Tryd.results14, go_sem, hc1]) rfl ⟨rfl, (by repeat (first | exact Below.refl _ _ | (refine kb_setCell ?_ (by simp; omega)) | (refine kb_setCell ?_ (by simp)) | apply kb_alloc | (refine keep_below ?_ hb1) | (refine keep_below ?_ hb2)))⟩

set_option maxHeartbeats 400000 in
theorem rbin2_or01 (a : Int) (s u : ByteArray) (ha : ¬ a = 1) (w : World) :
    Calls Tryd.prog 14 #[.string { data := #[124, 124] }, .agg #[.int .i64 2, .int .i64 a, .string s], .agg #[.int .i64 2, .int .i64 1, .string u]] w fun e w' => e = .returned (.tuple #[.agg #[.int .i64 2, .int .i64 1, .string { data := #[] }], .int .i64 0]) ∧ Below w.heap.size w w' := by
  have ha' : (a == 1) = false := by simpa using ha
  go_enter Tryd.func14, Tryd.ntmps14
  go_wp2_with ((go_at_call 18; refine (rbool_1 _).mono ?_; rintro e w1 ⟨rfl, hb1⟩; obtain ⟨hc1, hf1⟩ := bcell hb1; have hz1 := hb1.size))
  exact bodyPost_ret (v := .tuple #[.agg #[.int .i64 2, .int .i64 1, .string { data := #[] }], .int .i64 0]) (by simp [results, Tryd.results14, go_sem, hc1]) rfl ⟨rfl, (by repeat (first | exact Below.refl _ _ | (refine kb_setCell ?_ (by simp; omega)) | (refine kb_setCell ?_ (by simp)) | apply kb_alloc | (refine keep_below ?_ hb1) | (refine keep_below ?_ hb2)))⟩

set_option maxHeartbeats 400000 in
theorem rbin2_or10 (b : Int) (s u : ByteArray) (hb : ¬ b = 1) (w : World) :
    Calls Tryd.prog 14 #[.string { data := #[124, 124] }, .agg #[.int .i64 2, .int .i64 1, .string s], .agg #[.int .i64 2, .int .i64 b, .string u]] w fun e w' => e = .returned (.tuple #[.agg #[.int .i64 2, .int .i64 1, .string { data := #[] }], .int .i64 0]) ∧ Below w.heap.size w w' := by
  have hb' : (b == 1) = false := by simpa using hb
  go_enter Tryd.func14, Tryd.ntmps14
  go_wp2_with ((go_at_call 18; refine (rbool_1 _).mono ?_; rintro e w1 ⟨rfl, hb1⟩; obtain ⟨hc1, hf1⟩ := bcell hb1; have hz1 := hb1.size))
  exact bodyPost_ret (v := .tuple #[.agg #[.int .i64 2, .int .i64 1, .string { data := #[] }], .int .i64 0]) (by simp [results, Tryd.results14, go_sem, hc1]) rfl ⟨rfl, (by repeat (first | exact Below.refl _ _ | (refine kb_setCell ?_ (by simp; omega)) | (refine kb_setCell ?_ (by simp)) | apply kb_alloc | (refine keep_below ?_ hb1) | (refine keep_below ?_ hb2)))⟩

set_option maxHeartbeats 400000 in
theorem rbin2_or11 (s u : ByteArray) (w : World) :
    Calls Tryd.prog 14 #[.string { data := #[124, 124] }, .agg #[.int .i64 2, .int .i64 1, .string s], .agg #[.int .i64 2, .int .i64 1, .string u]] w fun e w' => e = .returned (.tuple #[.agg #[.int .i64 2, .int .i64 1, .string { data := #[] }], .int .i64 0]) ∧ Below w.heap.size w w' := by
  go_enter Tryd.func14, Tryd.ntmps14
  go_wp2_with ((go_at_call 18; refine (rbool_1 _).mono ?_; rintro e w1 ⟨rfl, hb1⟩; obtain ⟨hc1, hf1⟩ := bcell hb1; have hz1 := hb1.size))
  exact bodyPost_ret (v := .tuple #[.agg #[.int .i64 2, .int .i64 1, .string { data := #[] }], .int .i64 0]) (by simp [results, Tryd.results14, go_sem, hc1]) rfl ⟨rfl, (by repeat (first | exact Below.refl _ _ | (refine kb_setCell ?_ (by simp; omega)) | (refine kb_setCell ?_ (by simp)) | apply kb_alloc | (refine keep_below ?_ hb1) | (refine keep_below ?_ hb2)))⟩

set_option maxHeartbeats 400000 in
theorem rbin2_and00 (a b : Int) (s u : ByteArray) (ha : ¬ a = 1) (hb : ¬ b = 1) (w : World) :
    Calls Tryd.prog 14 #[.string { data := #[38, 38] }, .agg #[.int .i64 2, .int .i64 a, .string s], .agg #[.int .i64 2, .int .i64 b, .string u]] w fun e w' => e = .returned (.tuple #[.agg #[.int .i64 2, .int .i64 0, .string { data := #[] }], .int .i64 0]) ∧ Below w.heap.size w w' := by
  have ha' : (a == 1) = false := by simpa using ha
  have hb' : (b == 1) = false := by simpa using hb
  go_enter Tryd.func14, Tryd.ntmps14
  go_wp2_with ((go_at_call 18; refine (rbool_0 _).mono ?_; rintro e w1 ⟨rfl, hb1⟩; obtain ⟨hc1, hf1⟩ := bcell hb1; have hz1 := hb1.size))
  exact bodyPost_ret (v := .tuple #[.agg #[.int .i64 2, .int .i64 0, .string { data := #[] }], .int .i64 0]) (by simp [results, Tryd.results14, go_sem, hc1]) rfl ⟨rfl, (by repeat (first | exact Below.refl _ _ | (refine kb_setCell ?_ (by simp; omega)) | (refine kb_setCell ?_ (by simp)) | apply kb_alloc | (refine keep_below ?_ hb1) | (refine keep_below ?_ hb2)))⟩

set_option maxHeartbeats 400000 in
theorem rbin2_and01 (a : Int) (s u : ByteArray) (ha : ¬ a = 1) (w : World) :
    Calls Tryd.prog 14 #[.string { data := #[38, 38] }, .agg #[.int .i64 2, .int .i64 a, .string s], .agg #[.int .i64 2, .int .i64 1, .string u]] w fun e w' => e = .returned (.tuple #[.agg #[.int .i64 2, .int .i64 0, .string { data := #[] }], .int .i64 0]) ∧ Below w.heap.size w w' := by
  have ha' : (a == 1) = false := by simpa using ha
  go_enter Tryd.func14, Tryd.ntmps14
  go_wp2_with ((go_at_call 18; refine (rbool_0 _).mono ?_; rintro e w1 ⟨rfl, hb1⟩; obtain ⟨hc1, hf1⟩ := bcell hb1; have hz1 := hb1.size))
  exact bodyPost_ret (v := .tuple #[.agg #[.int .i64 2, .int .i64 0, .string { data := #[] }], .int .i64 0]) (by simp [results, Tryd.results14, go_sem, hc1]) rfl ⟨rfl, (by repeat (first | exact Below.refl _ _ | (refine kb_setCell ?_ (by simp; omega)) | (refine kb_setCell ?_ (by simp)) | apply kb_alloc | (refine keep_below ?_ hb1) | (refine keep_below ?_ hb2)))⟩

set_option maxHeartbeats 400000 in
theorem rbin2_and10 (b : Int) (s u : ByteArray) (hb : ¬ b = 1) (w : World) :
    Calls Tryd.prog 14 #[.string { data := #[38, 38] }, .agg #[.int .i64 2, .int .i64 1, .string s], .agg #[.int .i64 2, .int .i64 b, .string u]] w fun e w' => e = .returned (.tuple #[.agg #[.int .i64 2, .int .i64 0, .string { data := #[] }], .int .i64 0]) ∧ Below w.heap.size w w' := by
  have hb' : (b == 1) = false := by simpa using hb
  go_enter Tryd.func14, Tryd.ntmps14
  go_wp2_with ((go_at_call 18; refine (rbool_0 _).mono ?_; rintro e w1 ⟨rfl, hb1⟩; obtain ⟨hc1, hf1⟩ := bcell hb1; have hz1 := hb1.size))
  exact bodyPost_ret (v := .tuple #[.agg #[.int .i64 2, .int .i64 0, .string { data := #[] }], .int .i64 0]) (by simp [results, Tryd.results14, go_sem, hc1]) rfl ⟨rfl, (by repeat (first | exact Below.refl _ _ | (refine kb_setCell ?_ (by simp; omega)) | (refine kb_setCell ?_ (by simp)) | apply kb_alloc | (refine keep_below ?_ hb1) | (refine keep_below ?_ hb2)))⟩

set_option maxHeartbeats 400000 in
theorem rbin2_and11 (s u : ByteArray) (w : World) :
    Calls Tryd.prog 14 #[.string { data := #[38, 38] }, .agg #[.int .i64 2, .int .i64 1, .string s], .agg #[.int .i64 2, .int .i64 1, .string u]] w fun e w' => e = .returned (.tuple #[.agg #[.int .i64 2, .int .i64 1, .string { data := #[] }], .int .i64 0]) ∧ Below w.heap.size w w' := by
  go_enter Tryd.func14, Tryd.ntmps14
  go_wp2_with ((go_at_call 18; refine (rbool_1 _).mono ?_; rintro e w1 ⟨rfl, hb1⟩; obtain ⟨hc1, hf1⟩ := bcell hb1; have hz1 := hb1.size))
  exact bodyPost_ret (v := .tuple #[.agg #[.int .i64 2, .int .i64 1, .string { data := #[] }], .int .i64 0]) (by simp [results, Tryd.results14, go_sem, hc1]) rfl ⟨rfl, (by repeat (first | exact Below.refl _ _ | (refine kb_setCell ?_ (by simp; omega)) | (refine kb_setCell ?_ (by simp)) | apply kb_alloc | (refine keep_below ?_ hb1) | (refine keep_below ?_ hb2)))⟩

set_option maxHeartbeats 400000 in
theorem rbin2_add (a b : Int) (s u : ByteArray) (w : World) :
    Calls Tryd.prog 14 #[.string { data := #[43] }, .agg #[.int .i64 2, .int .i64 a, .string s], .agg #[.int .i64 2, .int .i64 b, .string u]] w fun e w' => e = .returned (.tuple #[.agg #[.int .i64 0, .int .i64 0, .string { data := #[] }], .int .i64 0]) ∧ Below w.heap.size w w' := by
  go_enter Tryd.func14, Tryd.ntmps14
  go_wp2
  exact bodyPost_ret (v := .tuple #[.agg #[.int .i64 0, .int .i64 0, .string { data := #[] }], .int .i64 0]) (by simp [results, Tryd.results14, go_sem]) rfl ⟨rfl, (by repeat (first | exact Below.refl _ _ | (refine kb_setCell ?_ (by simp; omega)) | (refine kb_setCell ?_ (by simp)) | apply kb_alloc | (refine keep_below ?_ hb1) | (refine keep_below ?_ hb2)))⟩

set_option maxHeartbeats 400000 in
theorem rbin2_sub (a b : Int) (s u : ByteArray) (w : World) :
    Calls Tryd.prog 14 #[.string { data := #[45] }, .agg #[.int .i64 2, .int .i64 a, .string s], .agg #[.int .i64 2, .int .i64 b, .string u]] w fun e w' => e = .returned (.tuple #[.agg #[.int .i64 0, .int .i64 0, .string { data := #[] }], .int .i64 0]) ∧ Below w.heap.size w w' := by
  go_enter Tryd.func14, Tryd.ntmps14
  go_wp2
  exact bodyPost_ret (v := .tuple #[.agg #[.int .i64 0, .int .i64 0, .string { data := #[] }], .int .i64 0]) (by simp [results, Tryd.results14, go_sem]) rfl ⟨rfl, (by repeat (first | exact Below.refl _ _ | (refine kb_setCell ?_ (by simp; omega)) | (refine kb_setCell ?_ (by simp)) | apply kb_alloc | (refine keep_below ?_ hb1) | (refine keep_below ?_ hb2)))⟩

set_option maxHeartbeats 400000 in
theorem rbin2_mul (a b : Int) (s u : ByteArray) (w : World) :
    Calls Tryd.prog 14 #[.string { data := #[42] }, .agg #[.int .i64 2, .int .i64 a, .string s], .agg #[.int .i64 2, .int .i64 b, .string u]] w fun e w' => e = .returned (.tuple #[.agg #[.int .i64 0, .int .i64 0, .string { data := #[] }], .int .i64 0]) ∧ Below w.heap.size w w' := by
  go_enter Tryd.func14, Tryd.ntmps14
  go_wp2
  exact bodyPost_ret (v := .tuple #[.agg #[.int .i64 0, .int .i64 0, .string { data := #[] }], .int .i64 0]) (by simp [results, Tryd.results14, go_sem]) rfl ⟨rfl, (by repeat (first | exact Below.refl _ _ | (refine kb_setCell ?_ (by simp; omega)) | (refine kb_setCell ?_ (by simp)) | apply kb_alloc | (refine keep_below ?_ hb1) | (refine keep_below ?_ hb2)))⟩

set_option maxHeartbeats 400000 in
theorem rbin2_quo (a b : Int) (s u : ByteArray) (w : World) :
    Calls Tryd.prog 14 #[.string { data := #[47] }, .agg #[.int .i64 2, .int .i64 a, .string s], .agg #[.int .i64 2, .int .i64 b, .string u]] w fun e w' => e = .returned (.tuple #[.agg #[.int .i64 0, .int .i64 0, .string { data := #[] }], .int .i64 0]) ∧ Below w.heap.size w w' := by
  go_enter Tryd.func14, Tryd.ntmps14
  go_wp2
  exact bodyPost_ret (v := .tuple #[.agg #[.int .i64 0, .int .i64 0, .string { data := #[] }], .int .i64 0]) (by simp [results, Tryd.results14, go_sem]) rfl ⟨rfl, (by repeat (first | exact Below.refl _ _ | (refine kb_setCell ?_ (by simp; omega)) | (refine kb_setCell ?_ (by simp)) | apply kb_alloc | (refine keep_below ?_ hb1) | (refine keep_below ?_ hb2)))⟩

set_option maxHeartbeats 400000 in
theorem rbin2_rem (a b : Int) (s u : ByteArray) (w : World) :
    Calls Tryd.prog 14 #[.string { data := #[37] }, .agg #[.int .i64 2, .int .i64 a, .string s], .agg #[.int .i64 2, .int .i64 b, .string u]] w fun e w' => e = .returned (.tuple #[.agg #[.int .i64 0, .int .i64 0, .string { data := #[] }], .int .i64 0]) ∧ Below w.heap.size w w' := by
  go_enter Tryd.func14, Tryd.ntmps14
  go_wp2
  exact bodyPost_ret (v := .tuple #[.agg #[.int .i64 0, .int .i64 0, .string { data := #[] }], .int .i64 0]) (by simp [results, Tryd.results14, go_sem]) rfl ⟨rfl, (by repeat (first | exact Below.refl _ _ | (refine kb_setCell ?_ (by simp; omega)) | (refine kb_setCell ?_ (by simp)) | apply kb_alloc | (refine keep_below ?_ hb1) | (refine keep_below ?_ hb2)))⟩

set_option maxHeartbeats 400000 in
theorem rbin2_lss (a b : Int) (s u : ByteArray) (w : World) :
    Calls Tryd.prog 14 #[.string { data := #[60] }, .agg #[.int .i64 2, .int .i64 a, .string s], .agg #[.int .i64 2, .int .i64 b, .string u]] w fun e w' => e = .returned (.tuple #[.agg #[.int .i64 0, .int .i64 0, .string { data := #[] }], .int .i64 0]) ∧ Below w.heap.size w w' := by
  go_enter Tryd.func14, Tryd.ntmps14
  go_wp2
  exact bodyPost_ret (v := .tuple #[.agg #[.int .i64 0, .int .i64 0, .string { data := #[] }], .int .i64 0]) (by simp [results, Tryd.results14, go_sem]) rfl ⟨rfl, (by repeat (first | exact Below.refl _ _ | (refine kb_setCell ?_ (by simp; omega)) | (refine kb_setCell ?_ (by simp)) | apply kb_alloc | (refine keep_below ?_ hb1) | (refine keep_below ?_ hb2)))⟩

set_option maxHeartbeats 400000 in
theorem rbin2_leq (a b : Int) (s u : ByteArray) (w : World) :
    Calls Tryd.prog 14 #[.string { data := #[60, 61] }, .agg #[.int .i64 2, .int .i64 a, .string s], .agg #[.int .i64 2, .int .i64 b, .string u]] w fun e w' => e = .returned (.tuple #[.agg #[.int .i64 0, .int .i64 0, .string { data := #[] }], .int .i64 0]) ∧ Below w.heap.size w w' := by
  go_enter Tryd.func14, Tryd.ntmps14
  go_wp2
  exact bodyPost_ret (v := .tuple #[.agg #[.int .i64 0, .int .i64 0, .string { data := #[] }], .int .i64 0]) (by simp [results, Tryd.results14, go_sem]) rfl ⟨rfl, (by repeat (first | exact Below.refl _ _ | (refine kb_setCell ?_ (by simp; omega)) | (refine kb_setCell ?_ (by simp)) | apply kb_alloc | (refine keep_below ?_ hb1) | (refine keep_below ?_ hb2)))⟩

set_option maxHeartbeats 400000 in
theorem rbin2_not (a b : Int) (s u : ByteArray) (w : World) :
    Calls Tryd.prog 14 #[.string { data := #[33] }, .agg #[.int .i64 2, .int .i64 a, .string s], .agg #[.int .i64 2, .int .i64 b, .string u]] w fun e w' => e = .returned (.tuple #[.agg #[.int .i64 0, .int .i64 0, .string { data := #[] }], .int .i64 0]) ∧ Below w.heap.size w w' := by
  go_enter Tryd.func14, Tryd.ntmps14
  go_wp2
  exact bodyPost_ret (v := .tuple #[.agg #[.int .i64 0, .int .i64 0, .string { data := #[] }], .int .i64 0]) (by simp [results, Tryd.results14, go_sem]) rfl ⟨rfl, (by repeat (first | exact Below.refl _ _ | (refine kb_setCell ?_ (by simp; omega)) | (refine kb_setCell ?_ (by simp)) | apply kb_alloc | (refine keep_below ?_ hb1) | (refine keep_below ?_ hb2)))⟩

set_option maxHeartbeats 400000 in
theorem rbin2_ask (a b : Int) (s u : ByteArray) (w : World) :
    Calls Tryd.prog 14 #[.string { data := #[63] }, .agg #[.int .i64 2, .int .i64 a, .string s], .agg #[.int .i64 2, .int .i64 b, .string u]] w fun e w' => e = .returned (.tuple #[.agg #[.int .i64 0, .int .i64 0, .string { data := #[] }], .int .i64 0]) ∧ Below w.heap.size w w' := by
  go_enter Tryd.func14, Tryd.ntmps14
  go_wp2
  exact bodyPost_ret (v := .tuple #[.agg #[.int .i64 0, .int .i64 0, .string { data := #[] }], .int .i64 0]) (by simp [results, Tryd.results14, go_sem]) rfl ⟨rfl, (by repeat (first | exact Below.refl _ _ | (refine kb_setCell ?_ (by simp; omega)) | (refine kb_setCell ?_ (by simp)) | apply kb_alloc | (refine keep_below ?_ hb1) | (refine keep_below ?_ hb2)))⟩

set_option maxHeartbeats 400000 in
theorem rbin_plus (a b : Int) (s u : ByteArray) (hs : s.size ≤ 60) (ht : u.size ≤ 60) (hl : s.size + u.size ≤ 40) (w : World) :
    Calls Tryd.prog 14 #[.string { data := #[43] }, .agg #[.int .i64 3, .int .i64 a, .string s], .agg #[.int .i64 3, .int .i64 b, .string u]] w fun e w' => e = .returned (.tuple #[.agg #[.int .i64 3, .int .i64 0, .string (s ++ u)], .int .i64 0]) ∧ Below w.heap.size w w' := by
  have i0 : ¬ (40 : Int) < (s.size : Int) + (u.size : Int) := by omega
  go_enter Tryd.func14, Tryd.ntmps14
  go_wp2_with ((go_at_call 20; refine (rtext_any _ _).mono ?_; rintro e w1 ⟨rfl, hb1⟩; obtain ⟨hc1, hf1⟩ := bcell hb1; have hz1 := hb1.size))
  exact bodyPost_ret (v := .tuple #[.agg #[.int .i64 3, .int .i64 0, .string (s ++ u)], .int .i64 0]) (by simp [results, Tryd.results14, go_sem, hc1]) rfl ⟨rfl, (by repeat (first | exact Below.refl _ _ | (refine kb_setCell ?_ (by simp; omega)) | (refine kb_setCell ?_ (by simp)) | apply kb_alloc | (refine keep_below ?_ hb1) | (refine keep_below ?_ hb2)))⟩

set_option maxHeartbeats 400000 in
theorem rbin_long (a b : Int) (s u : ByteArray) (hs : s.size ≤ 60) (ht : u.size ≤ 60) (hl : 40 < s.size + u.size) (w : World) :
    Calls Tryd.prog 14 #[.string { data := #[43] }, .agg #[.int .i64 3, .int .i64 a, .string s], .agg #[.int .i64 3, .int .i64 b, .string u]] w fun e w' => e = .returned (.tuple #[.agg #[.int .i64 0, .int .i64 0, .string { data := #[] }], .int .i64 6]) ∧ Below w.heap.size w w' := by
  have i0 : (40 : Int) < (s.size : Int) + (u.size : Int) := by omega
  go_enter Tryd.func14, Tryd.ntmps14
  go_wp2
  exact bodyPost_ret (v := .tuple #[.agg #[.int .i64 0, .int .i64 0, .string { data := #[] }], .int .i64 6]) (by simp [results, Tryd.results14, go_sem]) rfl ⟨rfl, (by repeat (first | exact Below.refl _ _ | (refine kb_setCell ?_ (by simp; omega)) | (refine kb_setCell ?_ (by simp)) | apply kb_alloc | (refine keep_below ?_ hb1) | (refine keep_below ?_ hb2)))⟩

set_option maxHeartbeats 400000 in
theorem rbin3_sub (a b : Int) (s u : ByteArray) (w : World) :
    Calls Tryd.prog 14 #[.string { data := #[45] }, .agg #[.int .i64 3, .int .i64 a, .string s], .agg #[.int .i64 3, .int .i64 b, .string u]] w fun e w' => e = .returned (.tuple #[.agg #[.int .i64 0, .int .i64 0, .string { data := #[] }], .int .i64 0]) ∧ Below w.heap.size w w' := by
  go_enter Tryd.func14, Tryd.ntmps14
  go_wp2
  exact bodyPost_ret (v := .tuple #[.agg #[.int .i64 0, .int .i64 0, .string { data := #[] }], .int .i64 0]) (by simp [results, Tryd.results14, go_sem]) rfl ⟨rfl, (by repeat (first | exact Below.refl _ _ | (refine kb_setCell ?_ (by simp; omega)) | (refine kb_setCell ?_ (by simp)) | apply kb_alloc | (refine keep_below ?_ hb1) | (refine keep_below ?_ hb2)))⟩

set_option maxHeartbeats 400000 in
theorem rbin3_mul (a b : Int) (s u : ByteArray) (w : World) :
    Calls Tryd.prog 14 #[.string { data := #[42] }, .agg #[.int .i64 3, .int .i64 a, .string s], .agg #[.int .i64 3, .int .i64 b, .string u]] w fun e w' => e = .returned (.tuple #[.agg #[.int .i64 0, .int .i64 0, .string { data := #[] }], .int .i64 0]) ∧ Below w.heap.size w w' := by
  go_enter Tryd.func14, Tryd.ntmps14
  go_wp2
  exact bodyPost_ret (v := .tuple #[.agg #[.int .i64 0, .int .i64 0, .string { data := #[] }], .int .i64 0]) (by simp [results, Tryd.results14, go_sem]) rfl ⟨rfl, (by repeat (first | exact Below.refl _ _ | (refine kb_setCell ?_ (by simp; omega)) | (refine kb_setCell ?_ (by simp)) | apply kb_alloc | (refine keep_below ?_ hb1) | (refine keep_below ?_ hb2)))⟩

set_option maxHeartbeats 400000 in
theorem rbin3_quo (a b : Int) (s u : ByteArray) (w : World) :
    Calls Tryd.prog 14 #[.string { data := #[47] }, .agg #[.int .i64 3, .int .i64 a, .string s], .agg #[.int .i64 3, .int .i64 b, .string u]] w fun e w' => e = .returned (.tuple #[.agg #[.int .i64 0, .int .i64 0, .string { data := #[] }], .int .i64 0]) ∧ Below w.heap.size w w' := by
  go_enter Tryd.func14, Tryd.ntmps14
  go_wp2
  exact bodyPost_ret (v := .tuple #[.agg #[.int .i64 0, .int .i64 0, .string { data := #[] }], .int .i64 0]) (by simp [results, Tryd.results14, go_sem]) rfl ⟨rfl, (by repeat (first | exact Below.refl _ _ | (refine kb_setCell ?_ (by simp; omega)) | (refine kb_setCell ?_ (by simp)) | apply kb_alloc | (refine keep_below ?_ hb1) | (refine keep_below ?_ hb2)))⟩

set_option maxHeartbeats 400000 in
theorem rbin3_rem (a b : Int) (s u : ByteArray) (w : World) :
    Calls Tryd.prog 14 #[.string { data := #[37] }, .agg #[.int .i64 3, .int .i64 a, .string s], .agg #[.int .i64 3, .int .i64 b, .string u]] w fun e w' => e = .returned (.tuple #[.agg #[.int .i64 0, .int .i64 0, .string { data := #[] }], .int .i64 0]) ∧ Below w.heap.size w w' := by
  go_enter Tryd.func14, Tryd.ntmps14
  go_wp2
  exact bodyPost_ret (v := .tuple #[.agg #[.int .i64 0, .int .i64 0, .string { data := #[] }], .int .i64 0]) (by simp [results, Tryd.results14, go_sem]) rfl ⟨rfl, (by repeat (first | exact Below.refl _ _ | (refine kb_setCell ?_ (by simp; omega)) | (refine kb_setCell ?_ (by simp)) | apply kb_alloc | (refine keep_below ?_ hb1) | (refine keep_below ?_ hb2)))⟩

set_option maxHeartbeats 400000 in
theorem rbin3_lss (a b : Int) (s u : ByteArray) (w : World) :
    Calls Tryd.prog 14 #[.string { data := #[60] }, .agg #[.int .i64 3, .int .i64 a, .string s], .agg #[.int .i64 3, .int .i64 b, .string u]] w fun e w' => e = .returned (.tuple #[.agg #[.int .i64 0, .int .i64 0, .string { data := #[] }], .int .i64 0]) ∧ Below w.heap.size w w' := by
  go_enter Tryd.func14, Tryd.ntmps14
  go_wp2
  exact bodyPost_ret (v := .tuple #[.agg #[.int .i64 0, .int .i64 0, .string { data := #[] }], .int .i64 0]) (by simp [results, Tryd.results14, go_sem]) rfl ⟨rfl, (by repeat (first | exact Below.refl _ _ | (refine kb_setCell ?_ (by simp; omega)) | (refine kb_setCell ?_ (by simp)) | apply kb_alloc | (refine keep_below ?_ hb1) | (refine keep_below ?_ hb2)))⟩

set_option maxHeartbeats 400000 in
theorem rbin3_leq (a b : Int) (s u : ByteArray) (w : World) :
    Calls Tryd.prog 14 #[.string { data := #[60, 61] }, .agg #[.int .i64 3, .int .i64 a, .string s], .agg #[.int .i64 3, .int .i64 b, .string u]] w fun e w' => e = .returned (.tuple #[.agg #[.int .i64 0, .int .i64 0, .string { data := #[] }], .int .i64 0]) ∧ Below w.heap.size w w' := by
  go_enter Tryd.func14, Tryd.ntmps14
  go_wp2
  exact bodyPost_ret (v := .tuple #[.agg #[.int .i64 0, .int .i64 0, .string { data := #[] }], .int .i64 0]) (by simp [results, Tryd.results14, go_sem]) rfl ⟨rfl, (by repeat (first | exact Below.refl _ _ | (refine kb_setCell ?_ (by simp; omega)) | (refine kb_setCell ?_ (by simp)) | apply kb_alloc | (refine keep_below ?_ hb1) | (refine keep_below ?_ hb2)))⟩

set_option maxHeartbeats 400000 in
theorem rbin3_or (a b : Int) (s u : ByteArray) (w : World) :
    Calls Tryd.prog 14 #[.string { data := #[124, 124] }, .agg #[.int .i64 3, .int .i64 a, .string s], .agg #[.int .i64 3, .int .i64 b, .string u]] w fun e w' => e = .returned (.tuple #[.agg #[.int .i64 0, .int .i64 0, .string { data := #[] }], .int .i64 0]) ∧ Below w.heap.size w w' := by
  go_enter Tryd.func14, Tryd.ntmps14
  go_wp2
  exact bodyPost_ret (v := .tuple #[.agg #[.int .i64 0, .int .i64 0, .string { data := #[] }], .int .i64 0]) (by simp [results, Tryd.results14, go_sem]) rfl ⟨rfl, (by repeat (first | exact Below.refl _ _ | (refine kb_setCell ?_ (by simp; omega)) | (refine kb_setCell ?_ (by simp)) | apply kb_alloc | (refine keep_below ?_ hb1) | (refine keep_below ?_ hb2)))⟩

set_option maxHeartbeats 400000 in
theorem rbin3_and (a b : Int) (s u : ByteArray) (w : World) :
    Calls Tryd.prog 14 #[.string { data := #[38, 38] }, .agg #[.int .i64 3, .int .i64 a, .string s], .agg #[.int .i64 3, .int .i64 b, .string u]] w fun e w' => e = .returned (.tuple #[.agg #[.int .i64 0, .int .i64 0, .string { data := #[] }], .int .i64 0]) ∧ Below w.heap.size w w' := by
  go_enter Tryd.func14, Tryd.ntmps14
  go_wp2
  exact bodyPost_ret (v := .tuple #[.agg #[.int .i64 0, .int .i64 0, .string { data := #[] }], .int .i64 0]) (by simp [results, Tryd.results14, go_sem]) rfl ⟨rfl, (by repeat (first | exact Below.refl _ _ | (refine kb_setCell ?_ (by simp; omega)) | (refine kb_setCell ?_ (by simp)) | apply kb_alloc | (refine keep_below ?_ hb1) | (refine keep_below ?_ hb2)))⟩

set_option maxHeartbeats 400000 in
theorem rbin3_not (a b : Int) (s u : ByteArray) (w : World) :
    Calls Tryd.prog 14 #[.string { data := #[33] }, .agg #[.int .i64 3, .int .i64 a, .string s], .agg #[.int .i64 3, .int .i64 b, .string u]] w fun e w' => e = .returned (.tuple #[.agg #[.int .i64 0, .int .i64 0, .string { data := #[] }], .int .i64 0]) ∧ Below w.heap.size w w' := by
  go_enter Tryd.func14, Tryd.ntmps14
  go_wp2
  exact bodyPost_ret (v := .tuple #[.agg #[.int .i64 0, .int .i64 0, .string { data := #[] }], .int .i64 0]) (by simp [results, Tryd.results14, go_sem]) rfl ⟨rfl, (by repeat (first | exact Below.refl _ _ | (refine kb_setCell ?_ (by simp; omega)) | (refine kb_setCell ?_ (by simp)) | apply kb_alloc | (refine keep_below ?_ hb1) | (refine keep_below ?_ hb2)))⟩

set_option maxHeartbeats 400000 in
theorem rbin3_ask (a b : Int) (s u : ByteArray) (w : World) :
    Calls Tryd.prog 14 #[.string { data := #[63] }, .agg #[.int .i64 3, .int .i64 a, .string s], .agg #[.int .i64 3, .int .i64 b, .string u]] w fun e w' => e = .returned (.tuple #[.agg #[.int .i64 0, .int .i64 0, .string { data := #[] }], .int .i64 0]) ∧ Below w.heap.size w w' := by
  go_enter Tryd.func14, Tryd.ntmps14
  go_wp2
  exact bodyPost_ret (v := .tuple #[.agg #[.int .i64 0, .int .i64 0, .string { data := #[] }], .int .i64 0]) (by simp [results, Tryd.results14, go_sem]) rfl ⟨rfl, (by repeat (first | exact Below.refl _ _ | (refine kb_setCell ?_ (by simp; omega)) | (refine kb_setCell ?_ (by simp)) | apply kb_alloc | (refine keep_below ?_ hb1) | (refine keep_below ?_ hb2)))⟩

set_option maxHeartbeats 400000 in
theorem rbin4_add (a b : Int) (s u : ByteArray) (w : World) :
    Calls Tryd.prog 14 #[.string { data := #[43] }, .agg #[.int .i64 4, .int .i64 a, .string s], .agg #[.int .i64 4, .int .i64 b, .string u]] w fun e w' => e = .returned (.tuple #[.agg #[.int .i64 0, .int .i64 0, .string { data := #[] }], .int .i64 0]) ∧ Below w.heap.size w w' := by
  go_enter Tryd.func14, Tryd.ntmps14
  go_wp2
  exact bodyPost_ret (v := .tuple #[.agg #[.int .i64 0, .int .i64 0, .string { data := #[] }], .int .i64 0]) (by simp [results, Tryd.results14, go_sem]) rfl ⟨rfl, (by repeat (first | exact Below.refl _ _ | (refine kb_setCell ?_ (by simp; omega)) | (refine kb_setCell ?_ (by simp)) | apply kb_alloc | (refine keep_below ?_ hb1) | (refine keep_below ?_ hb2)))⟩

set_option maxHeartbeats 400000 in
theorem rbin4_sub (a b : Int) (s u : ByteArray) (w : World) :
    Calls Tryd.prog 14 #[.string { data := #[45] }, .agg #[.int .i64 4, .int .i64 a, .string s], .agg #[.int .i64 4, .int .i64 b, .string u]] w fun e w' => e = .returned (.tuple #[.agg #[.int .i64 0, .int .i64 0, .string { data := #[] }], .int .i64 0]) ∧ Below w.heap.size w w' := by
  go_enter Tryd.func14, Tryd.ntmps14
  go_wp2
  exact bodyPost_ret (v := .tuple #[.agg #[.int .i64 0, .int .i64 0, .string { data := #[] }], .int .i64 0]) (by simp [results, Tryd.results14, go_sem]) rfl ⟨rfl, (by repeat (first | exact Below.refl _ _ | (refine kb_setCell ?_ (by simp; omega)) | (refine kb_setCell ?_ (by simp)) | apply kb_alloc | (refine keep_below ?_ hb1) | (refine keep_below ?_ hb2)))⟩

set_option maxHeartbeats 400000 in
theorem rbin4_mul (a b : Int) (s u : ByteArray) (w : World) :
    Calls Tryd.prog 14 #[.string { data := #[42] }, .agg #[.int .i64 4, .int .i64 a, .string s], .agg #[.int .i64 4, .int .i64 b, .string u]] w fun e w' => e = .returned (.tuple #[.agg #[.int .i64 0, .int .i64 0, .string { data := #[] }], .int .i64 0]) ∧ Below w.heap.size w w' := by
  go_enter Tryd.func14, Tryd.ntmps14
  go_wp2
  exact bodyPost_ret (v := .tuple #[.agg #[.int .i64 0, .int .i64 0, .string { data := #[] }], .int .i64 0]) (by simp [results, Tryd.results14, go_sem]) rfl ⟨rfl, (by repeat (first | exact Below.refl _ _ | (refine kb_setCell ?_ (by simp; omega)) | (refine kb_setCell ?_ (by simp)) | apply kb_alloc | (refine keep_below ?_ hb1) | (refine keep_below ?_ hb2)))⟩

set_option maxHeartbeats 400000 in
theorem rbin4_quo (a b : Int) (s u : ByteArray) (w : World) :
    Calls Tryd.prog 14 #[.string { data := #[47] }, .agg #[.int .i64 4, .int .i64 a, .string s], .agg #[.int .i64 4, .int .i64 b, .string u]] w fun e w' => e = .returned (.tuple #[.agg #[.int .i64 0, .int .i64 0, .string { data := #[] }], .int .i64 0]) ∧ Below w.heap.size w w' := by
  go_enter Tryd.func14, Tryd.ntmps14
  go_wp2
  exact bodyPost_ret (v := .tuple #[.agg #[.int .i64 0, .int .i64 0, .string { data := #[] }], .int .i64 0]) (by simp [results, Tryd.results14, go_sem]) rfl ⟨rfl, (by repeat (first | exact Below.refl _ _ | (refine kb_setCell ?_ (by simp; omega)) | (refine kb_setCell ?_ (by simp)) | apply kb_alloc | (refine keep_below ?_ hb1) | (refine keep_below ?_ hb2)))⟩

set_option maxHeartbeats 400000 in
theorem rbin4_rem (a b : Int) (s u : ByteArray) (w : World) :
    Calls Tryd.prog 14 #[.string { data := #[37] }, .agg #[.int .i64 4, .int .i64 a, .string s], .agg #[.int .i64 4, .int .i64 b, .string u]] w fun e w' => e = .returned (.tuple #[.agg #[.int .i64 0, .int .i64 0, .string { data := #[] }], .int .i64 0]) ∧ Below w.heap.size w w' := by
  go_enter Tryd.func14, Tryd.ntmps14
  go_wp2
  exact bodyPost_ret (v := .tuple #[.agg #[.int .i64 0, .int .i64 0, .string { data := #[] }], .int .i64 0]) (by simp [results, Tryd.results14, go_sem]) rfl ⟨rfl, (by repeat (first | exact Below.refl _ _ | (refine kb_setCell ?_ (by simp; omega)) | (refine kb_setCell ?_ (by simp)) | apply kb_alloc | (refine keep_below ?_ hb1) | (refine keep_below ?_ hb2)))⟩

set_option maxHeartbeats 400000 in
theorem rbin4_lss (a b : Int) (s u : ByteArray) (w : World) :
    Calls Tryd.prog 14 #[.string { data := #[60] }, .agg #[.int .i64 4, .int .i64 a, .string s], .agg #[.int .i64 4, .int .i64 b, .string u]] w fun e w' => e = .returned (.tuple #[.agg #[.int .i64 0, .int .i64 0, .string { data := #[] }], .int .i64 0]) ∧ Below w.heap.size w w' := by
  go_enter Tryd.func14, Tryd.ntmps14
  go_wp2
  exact bodyPost_ret (v := .tuple #[.agg #[.int .i64 0, .int .i64 0, .string { data := #[] }], .int .i64 0]) (by simp [results, Tryd.results14, go_sem]) rfl ⟨rfl, (by repeat (first | exact Below.refl _ _ | (refine kb_setCell ?_ (by simp; omega)) | (refine kb_setCell ?_ (by simp)) | apply kb_alloc | (refine keep_below ?_ hb1) | (refine keep_below ?_ hb2)))⟩

set_option maxHeartbeats 400000 in
theorem rbin4_leq (a b : Int) (s u : ByteArray) (w : World) :
    Calls Tryd.prog 14 #[.string { data := #[60, 61] }, .agg #[.int .i64 4, .int .i64 a, .string s], .agg #[.int .i64 4, .int .i64 b, .string u]] w fun e w' => e = .returned (.tuple #[.agg #[.int .i64 0, .int .i64 0, .string { data := #[] }], .int .i64 0]) ∧ Below w.heap.size w w' := by
  go_enter Tryd.func14, Tryd.ntmps14
  go_wp2
  exact bodyPost_ret (v := .tuple #[.agg #[.int .i64 0, .int .i64 0, .string { data := #[] }], .int .i64 0]) (by simp [results, Tryd.results14, go_sem]) rfl ⟨rfl, (by repeat (first | exact Below.refl _ _ | (refine kb_setCell ?_ (by simp; omega)) | (refine kb_setCell ?_ (by simp)) | apply kb_alloc | (refine keep_below ?_ hb1) | (refine keep_below ?_ hb2)))⟩

set_option maxHeartbeats 400000 in
theorem rbin4_or (a b : Int) (s u : ByteArray) (w : World) :
    Calls Tryd.prog 14 #[.string { data := #[124, 124] }, .agg #[.int .i64 4, .int .i64 a, .string s], .agg #[.int .i64 4, .int .i64 b, .string u]] w fun e w' => e = .returned (.tuple #[.agg #[.int .i64 0, .int .i64 0, .string { data := #[] }], .int .i64 0]) ∧ Below w.heap.size w w' := by
  go_enter Tryd.func14, Tryd.ntmps14
  go_wp2
  exact bodyPost_ret (v := .tuple #[.agg #[.int .i64 0, .int .i64 0, .string { data := #[] }], .int .i64 0]) (by simp [results, Tryd.results14, go_sem]) rfl ⟨rfl, (by repeat (first | exact Below.refl _ _ | (refine kb_setCell ?_ (by simp; omega)) | (refine kb_setCell ?_ (by simp)) | apply kb_alloc | (refine keep_below ?_ hb1) | (refine keep_below ?_ hb2)))⟩

set_option maxHeartbeats 400000 in
theorem rbin4_and (a b : Int) (s u : ByteArray) (w : World) :
    Calls Tryd.prog 14 #[.string { data := #[38, 38] }, .agg #[.int .i64 4, .int .i64 a, .string s], .agg #[.int .i64 4, .int .i64 b, .string u]] w fun e w' => e = .returned (.tuple #[.agg #[.int .i64 0, .int .i64 0, .string { data := #[] }], .int .i64 0]) ∧ Below w.heap.size w w' := by
  go_enter Tryd.func14, Tryd.ntmps14
  go_wp2
  exact bodyPost_ret (v := .tuple #[.agg #[.int .i64 0, .int .i64 0, .string { data := #[] }], .int .i64 0]) (by simp [results, Tryd.results14, go_sem]) rfl ⟨rfl, (by repeat (first | exact Below.refl _ _ | (refine kb_setCell ?_ (by simp; omega)) | (refine kb_setCell ?_ (by simp)) | apply kb_alloc | (refine keep_below ?_ hb1) | (refine keep_below ?_ hb2)))⟩

set_option maxHeartbeats 400000 in
theorem rbin4_not (a b : Int) (s u : ByteArray) (w : World) :
    Calls Tryd.prog 14 #[.string { data := #[33] }, .agg #[.int .i64 4, .int .i64 a, .string s], .agg #[.int .i64 4, .int .i64 b, .string u]] w fun e w' => e = .returned (.tuple #[.agg #[.int .i64 0, .int .i64 0, .string { data := #[] }], .int .i64 0]) ∧ Below w.heap.size w w' := by
  go_enter Tryd.func14, Tryd.ntmps14
  go_wp2
  exact bodyPost_ret (v := .tuple #[.agg #[.int .i64 0, .int .i64 0, .string { data := #[] }], .int .i64 0]) (by simp [results, Tryd.results14, go_sem]) rfl ⟨rfl, (by repeat (first | exact Below.refl _ _ | (refine kb_setCell ?_ (by simp; omega)) | (refine kb_setCell ?_ (by simp)) | apply kb_alloc | (refine keep_below ?_ hb1) | (refine keep_below ?_ hb2)))⟩

set_option maxHeartbeats 400000 in
theorem rbin4_ask (a b : Int) (s u : ByteArray) (w : World) :
    Calls Tryd.prog 14 #[.string { data := #[63] }, .agg #[.int .i64 4, .int .i64 a, .string s], .agg #[.int .i64 4, .int .i64 b, .string u]] w fun e w' => e = .returned (.tuple #[.agg #[.int .i64 0, .int .i64 0, .string { data := #[] }], .int .i64 0]) ∧ Below w.heap.size w w' := by
  go_enter Tryd.func14, Tryd.ntmps14
  go_wp2
  exact bodyPost_ret (v := .tuple #[.agg #[.int .i64 0, .int .i64 0, .string { data := #[] }], .int .i64 0]) (by simp [results, Tryd.results14, go_sem]) rfl ⟨rfl, (by repeat (first | exact Below.refl _ _ | (refine kb_setCell ?_ (by simp; omega)) | (refine kb_setCell ?_ (by simp)) | apply kb_alloc | (refine keep_below ?_ hb1) | (refine keep_below ?_ hb2)))⟩
end Go.Proofs.YtpighdioomjnmaaDoor.textsof
