/-
  Layer 5: contracts of the document's answer. Written by an AI agent.
-/
import Derived.Test.YtpighdioomjnmaaDoorTxtJ
import Derived.IntWalk
namespace Go.Proofs.YtpighdioomjnmaaDoor.textsof
open Go.RowKit Go.Proofs.YtpighdioomjnmaaDoor.logic
set_option linter.unusedVariables false
set_option linter.unusedSimpArgs false

set_option maxHeartbeats 400000 in
theorem rint_any (n : Int) (w : World) :
    Calls Tryd.prog 16 #[.int .i64 n] w fun e w' => e = .returned (.agg #[.int .i64 1, .int .i64 n, .string { data := #[] }]) ∧ Below w.heap.size w w' := by
  go_enter Tryd.func16, Tryd.ntmps16
  go_wp2
  exact bodyPost_ret (v := .agg #[.int .i64 1, .int .i64 n, .string { data := #[] }]) (by simp [results, Tryd.results16, go_sem]) rfl ⟨rfl, (by repeat (first | exact Below.refl _ _ | (refine kb_setCell ?_ (by simp; omega)) | (refine kb_setCell ?_ (by simp)) | apply kb_alloc | (refine keep_below ?_ hb1) | (refine keep_below ?_ hb2)))⟩

theorem rbool_any (b : Bool) (w : World) : Calls Tryd.prog 18 #[.bool b] w fun e w' => e = .returned (.agg #[.int .i64 2, .int .i64 (bN b), .string { data := #[] }]) ∧ Below w.heap.size w w' := by
  cases b
  · show Calls Tryd.prog 18 #[.bool false] w fun e w' => e = .returned (.agg #[.int .i64 2, .int .i64 0, .string { data := #[] }]) ∧ Below w.heap.size w w'
    go_enter Tryd.func18, Tryd.ntmps18
    go_wp2
    exact bodyPost_ret (v := .agg #[.int .i64 2, .int .i64 0, .string { data := #[] }]) (by simp [results, Tryd.results18, go_sem]) rfl ⟨rfl, (by repeat (first | exact Below.refl _ _ | (refine kb_setCell ?_ (by simp; omega)) | (refine kb_setCell ?_ (by simp)) | apply kb_alloc | (refine keep_below ?_ hb1) | (refine keep_below ?_ hb2)))⟩
  · show Calls Tryd.prog 18 #[.bool true] w fun e w' => e = .returned (.agg #[.int .i64 2, .int .i64 1, .string { data := #[] }]) ∧ Below w.heap.size w w'
    go_enter Tryd.func18, Tryd.ntmps18
    go_wp2
    exact bodyPost_ret (v := .agg #[.int .i64 2, .int .i64 1, .string { data := #[] }]) (by simp [results, Tryd.results18, go_sem]) rfl ⟨rfl, (by repeat (first | exact Below.refl _ _ | (refine kb_setCell ?_ (by simp; omega)) | (refine kb_setCell ?_ (by simp)) | apply kb_alloc | (refine keep_below ?_ hb1) | (refine keep_below ?_ hb2)))⟩

theorem rbool_1 (w : World) : Calls Tryd.prog 18 #[.bool true] w fun e w' => e = .returned (.agg #[.int .i64 2, .int .i64 1, .string { data := #[] }]) ∧ Below w.heap.size w w' := rbool_any true w

theorem rbool_0 (w : World) : Calls Tryd.prog 18 #[.bool false] w fun e w' => e = .returned (.agg #[.int .i64 2, .int .i64 0, .string { data := #[] }]) ∧ Below w.heap.size w w' := rbool_any false w

set_option maxHeartbeats 400000 in
theorem rtext_any (s : ByteArray) (w : World) :
    Calls Tryd.prog 20 #[.string s] w fun e w' => e = .returned (.agg #[.int .i64 3, .int .i64 0, .string s]) ∧ Below w.heap.size w w' := by
  go_enter Tryd.func20, Tryd.ntmps20
  go_wp2
  exact bodyPost_ret (v := .agg #[.int .i64 3, .int .i64 0, .string s]) (by simp [results, Tryd.results20, go_sem]) rfl ⟨rfl, (by repeat (first | exact Below.refl _ _ | (refine kb_setCell ?_ (by simp; omega)) | (refine kb_setCell ?_ (by simp)) | apply kb_alloc | (refine keep_below ?_ hb1) | (refine keep_below ?_ hb2)))⟩

set_option maxHeartbeats 400000 in
theorem rzero_any (t : Int) (w : World) :
    Calls Tryd.prog 22 #[.int .i64 t] w fun e w' => e = .returned (.agg #[.int .i64 t, .int .i64 0, .string { data := #[] }]) ∧ Below w.heap.size w w' := by
  go_enter Tryd.func22, Tryd.ntmps22
  go_wp2
  exact bodyPost_ret (v := .agg #[.int .i64 t, .int .i64 0, .string { data := #[] }]) (by simp [results, Tryd.results22, go_sem]) rfl ⟨rfl, (by repeat (first | exact Below.refl _ _ | (refine kb_setCell ?_ (by simp; omega)) | (refine kb_setCell ?_ (by simp)) | apply kb_alloc | (refine keep_below ?_ hb1) | (refine keep_below ?_ hb2)))⟩

set_option maxHeartbeats 400000 in
theorem zero_any (t : Int) (w : World) :
    Calls Tryd.prog 21 #[.int .i64 t] w fun e w' => e = .returned (.agg #[.int .i64 t, .int .i64 0, .string { data := #[] }]) ∧ Below w.heap.size w w' := by
  go_enter Tryd.func21, Tryd.ntmps21
  go_wp2
  exact bodyPost_ret (v := .agg #[.int .i64 t, .int .i64 0, .string { data := #[] }]) (by simp [results, Tryd.results21, go_sem]) rfl ⟨rfl, (by repeat (first | exact Below.refl _ _ | (refine kb_setCell ?_ (by simp; omega)) | (refine kb_setCell ?_ (by simp)) | apply kb_alloc | (refine keep_below ?_ hb1) | (refine keep_below ?_ hb2)))⟩

set_option maxHeartbeats 400000 in
theorem rints_add (a b : Int) (w : World) :
    Calls Tryd.prog 34 #[.string { data := #[43] }, .int .i64 a, .int .i64 b] w fun e w' => e = .returned (.tuple #[.agg #[.int .i64 1, .int .i64 (wrap64 (a + b)), .string { data := #[] }], .int .i64 0]) ∧ Below w.heap.size w w' := by
  go_enter Tryd.func34, Tryd.ntmps34
  go_wp2_with ((go_at_call 16; refine (rint_any _ _).mono ?_; rintro e w1 ⟨rfl, hb1⟩; obtain ⟨hc1, hf1⟩ := bcell hb1; have hz1 := hb1.size))
  exact bodyPost_ret (v := .tuple #[.agg #[.int .i64 1, .int .i64 (wrap64 (a + b)), .string { data := #[] }], .int .i64 0]) (by simp [results, Tryd.results34, go_sem, hc1]) rfl ⟨rfl, (by repeat (first | exact Below.refl _ _ | (refine kb_setCell ?_ (by simp; omega)) | (refine kb_setCell ?_ (by simp)) | apply kb_alloc | (refine keep_below ?_ hb1) | (refine keep_below ?_ hb2)))⟩

set_option maxHeartbeats 400000 in
theorem rints_sub (a b : Int) (w : World) :
    Calls Tryd.prog 34 #[.string { data := #[45] }, .int .i64 a, .int .i64 b] w fun e w' => e = .returned (.tuple #[.agg #[.int .i64 1, .int .i64 (wrap64 (a - b)), .string { data := #[] }], .int .i64 0]) ∧ Below w.heap.size w w' := by
  go_enter Tryd.func34, Tryd.ntmps34
  go_wp2_with ((go_at_call 16; refine (rint_any _ _).mono ?_; rintro e w1 ⟨rfl, hb1⟩; obtain ⟨hc1, hf1⟩ := bcell hb1; have hz1 := hb1.size))
  exact bodyPost_ret (v := .tuple #[.agg #[.int .i64 1, .int .i64 (wrap64 (a - b)), .string { data := #[] }], .int .i64 0]) (by simp [results, Tryd.results34, go_sem, hc1]) rfl ⟨rfl, (by repeat (first | exact Below.refl _ _ | (refine kb_setCell ?_ (by simp; omega)) | (refine kb_setCell ?_ (by simp)) | apply kb_alloc | (refine keep_below ?_ hb1) | (refine keep_below ?_ hb2)))⟩

set_option maxHeartbeats 400000 in
theorem rints_mul (a b : Int) (w : World) :
    Calls Tryd.prog 34 #[.string { data := #[42] }, .int .i64 a, .int .i64 b] w fun e w' => e = .returned (.tuple #[.agg #[.int .i64 1, .int .i64 (wrap64 (a * b)), .string { data := #[] }], .int .i64 0]) ∧ Below w.heap.size w w' := by
  go_enter Tryd.func34, Tryd.ntmps34
  go_wp2_with ((go_at_call 16; refine (rint_any _ _).mono ?_; rintro e w1 ⟨rfl, hb1⟩; obtain ⟨hc1, hf1⟩ := bcell hb1; have hz1 := hb1.size))
  exact bodyPost_ret (v := .tuple #[.agg #[.int .i64 1, .int .i64 (wrap64 (a * b)), .string { data := #[] }], .int .i64 0]) (by simp [results, Tryd.results34, go_sem, hc1]) rfl ⟨rfl, (by repeat (first | exact Below.refl _ _ | (refine kb_setCell ?_ (by simp; omega)) | (refine kb_setCell ?_ (by simp)) | apply kb_alloc | (refine keep_below ?_ hb1) | (refine keep_below ?_ hb2)))⟩

set_option maxHeartbeats 400000 in
theorem rints_quo (a b : Int) (h1 : ¬ b = 0) (w : World) :
    Calls Tryd.prog 34 #[.string { data := #[47] }, .int .i64 a, .int .i64 b] w fun e w' => e = .returned (.tuple #[.agg #[.int .i64 1, .int .i64 (wrap64 (a.tdiv b)), .string { data := #[] }], .int .i64 0]) ∧ Below w.heap.size w w' := by
  have h0 : (b == 0) = false := by simpa using h1
  go_enter Tryd.func34, Tryd.ntmps34
  go_wp2_with ((go_at_call 16; refine (rint_any _ _).mono ?_; rintro e w1 ⟨rfl, hb1⟩; obtain ⟨hc1, hf1⟩ := bcell hb1; have hz1 := hb1.size))
  exact bodyPost_ret (v := .tuple #[.agg #[.int .i64 1, .int .i64 (wrap64 (a.tdiv b)), .string { data := #[] }], .int .i64 0]) (by simp [results, Tryd.results34, go_sem, hc1]) rfl ⟨rfl, (by repeat (first | exact Below.refl _ _ | (refine kb_setCell ?_ (by simp; omega)) | (refine kb_setCell ?_ (by simp)) | apply kb_alloc | (refine keep_below ?_ hb1) | (refine keep_below ?_ hb2)))⟩

set_option maxHeartbeats 400000 in
theorem rints_rem (a b : Int) (h1 : ¬ b = 0) (w : World) :
    Calls Tryd.prog 34 #[.string { data := #[37] }, .int .i64 a, .int .i64 b] w fun e w' => e = .returned (.tuple #[.agg #[.int .i64 1, .int .i64 (a.tmod b), .string { data := #[] }], .int .i64 0]) ∧ Below w.heap.size w w' := by
  have h0 : (b == 0) = false := by simpa using h1
  go_enter Tryd.func34, Tryd.ntmps34
  go_wp2_with ((go_at_call 16; refine (rint_any _ _).mono ?_; rintro e w1 ⟨rfl, hb1⟩; obtain ⟨hc1, hf1⟩ := bcell hb1; have hz1 := hb1.size))
  exact bodyPost_ret (v := .tuple #[.agg #[.int .i64 1, .int .i64 (a.tmod b), .string { data := #[] }], .int .i64 0]) (by simp [results, Tryd.results34, go_sem, hc1]) rfl ⟨rfl, (by repeat (first | exact Below.refl _ _ | (refine kb_setCell ?_ (by simp; omega)) | (refine kb_setCell ?_ (by simp)) | apply kb_alloc | (refine keep_below ?_ hb1) | (refine keep_below ?_ hb2)))⟩

set_option maxHeartbeats 400000 in
theorem rints_quo0 (a : Int) (w : World) :
    Calls Tryd.prog 34 #[.string { data := #[47] }, .int .i64 a, .int .i64 0] w fun e w' => e = .returned (.tuple #[.agg #[.int .i64 0, .int .i64 0, .string { data := #[] }], .int .i64 1]) ∧ Below w.heap.size w w' := by
  go_enter Tryd.func34, Tryd.ntmps34
  go_wp2
  exact bodyPost_ret (v := .tuple #[.agg #[.int .i64 0, .int .i64 0, .string { data := #[] }], .int .i64 1]) (by simp [results, Tryd.results34, go_sem]) rfl ⟨rfl, (by repeat (first | exact Below.refl _ _ | (refine kb_setCell ?_ (by simp; omega)) | (refine kb_setCell ?_ (by simp)) | apply kb_alloc | (refine keep_below ?_ hb1) | (refine keep_below ?_ hb2)))⟩

set_option maxHeartbeats 400000 in
theorem rints_rem0 (a : Int) (w : World) :
    Calls Tryd.prog 34 #[.string { data := #[37] }, .int .i64 a, .int .i64 0] w fun e w' => e = .returned (.tuple #[.agg #[.int .i64 0, .int .i64 0, .string { data := #[] }], .int .i64 1]) ∧ Below w.heap.size w w' := by
  go_enter Tryd.func34, Tryd.ntmps34
  go_wp2
  exact bodyPost_ret (v := .tuple #[.agg #[.int .i64 0, .int .i64 0, .string { data := #[] }], .int .i64 1]) (by simp [results, Tryd.results34, go_sem]) rfl ⟨rfl, (by repeat (first | exact Below.refl _ _ | (refine kb_setCell ?_ (by simp; omega)) | (refine kb_setCell ?_ (by simp)) | apply kb_alloc | (refine keep_below ?_ hb1) | (refine keep_below ?_ hb2)))⟩

set_option maxHeartbeats 400000 in
theorem rints_lss (a b : Int) (w : World) :
    Calls Tryd.prog 34 #[.string { data := #[60] }, .int .i64 a, .int .i64 b] w fun e w' => e = .returned (.tuple #[.agg #[.int .i64 2, .int .i64 (bN (decide (a < b))), .string { data := #[] }], .int .i64 0]) ∧ Below w.heap.size w w' := by
  go_enter Tryd.func34, Tryd.ntmps34
  go_wp2_with ((go_at_call 18; refine (rbool_any _ _).mono ?_; rintro e w1 ⟨rfl, hb1⟩; obtain ⟨hc1, hf1⟩ := bcell hb1; have hz1 := hb1.size))
  exact bodyPost_ret (v := .tuple #[.agg #[.int .i64 2, .int .i64 (bN (decide (a < b))), .string { data := #[] }], .int .i64 0]) (by simp [results, Tryd.results34, go_sem, hc1]) rfl ⟨rfl, (by repeat (first | exact Below.refl _ _ | (refine kb_setCell ?_ (by simp; omega)) | (refine kb_setCell ?_ (by simp)) | apply kb_alloc | (refine keep_below ?_ hb1) | (refine keep_below ?_ hb2)))⟩

set_option maxHeartbeats 400000 in
theorem rints_leq (a b : Int) (w : World) :
    Calls Tryd.prog 34 #[.string { data := #[60, 61] }, .int .i64 a, .int .i64 b] w fun e w' => e = .returned (.tuple #[.agg #[.int .i64 2, .int .i64 (bN (decide (a ≤ b))), .string { data := #[] }], .int .i64 0]) ∧ Below w.heap.size w w' := by
  go_enter Tryd.func34, Tryd.ntmps34
  go_wp2_with ((go_at_call 18; refine (rbool_any _ _).mono ?_; rintro e w1 ⟨rfl, hb1⟩; obtain ⟨hc1, hf1⟩ := bcell hb1; have hz1 := hb1.size))
  exact bodyPost_ret (v := .tuple #[.agg #[.int .i64 2, .int .i64 (bN (decide (a ≤ b))), .string { data := #[] }], .int .i64 0]) (by simp [results, Tryd.results34, go_sem, hc1]) rfl ⟨rfl, (by repeat (first | exact Below.refl _ _ | (refine kb_setCell ?_ (by simp; omega)) | (refine kb_setCell ?_ (by simp)) | apply kb_alloc | (refine keep_below ?_ hb1) | (refine keep_below ?_ hb2)))⟩

set_option maxHeartbeats 400000 in
theorem rints_or (a b : Int) (w : World) :
    Calls Tryd.prog 34 #[.string { data := #[124, 124] }, .int .i64 a, .int .i64 b] w fun e w' => e = .returned (.tuple #[.agg #[.int .i64 0, .int .i64 0, .string { data := #[] }], .int .i64 0]) ∧ Below w.heap.size w w' := by
  go_enter Tryd.func34, Tryd.ntmps34
  go_wp2
  exact bodyPost_ret (v := .tuple #[.agg #[.int .i64 0, .int .i64 0, .string { data := #[] }], .int .i64 0]) (by simp [results, Tryd.results34, go_sem]) rfl ⟨rfl, (by repeat (first | exact Below.refl _ _ | (refine kb_setCell ?_ (by simp; omega)) | (refine kb_setCell ?_ (by simp)) | apply kb_alloc | (refine keep_below ?_ hb1) | (refine keep_below ?_ hb2)))⟩

set_option maxHeartbeats 400000 in
theorem rints_and (a b : Int) (w : World) :
    Calls Tryd.prog 34 #[.string { data := #[38, 38] }, .int .i64 a, .int .i64 b] w fun e w' => e = .returned (.tuple #[.agg #[.int .i64 0, .int .i64 0, .string { data := #[] }], .int .i64 0]) ∧ Below w.heap.size w w' := by
  go_enter Tryd.func34, Tryd.ntmps34
  go_wp2
  exact bodyPost_ret (v := .tuple #[.agg #[.int .i64 0, .int .i64 0, .string { data := #[] }], .int .i64 0]) (by simp [results, Tryd.results34, go_sem]) rfl ⟨rfl, (by repeat (first | exact Below.refl _ _ | (refine kb_setCell ?_ (by simp; omega)) | (refine kb_setCell ?_ (by simp)) | apply kb_alloc | (refine keep_below ?_ hb1) | (refine keep_below ?_ hb2)))⟩

set_option maxHeartbeats 400000 in
theorem rints_not (a b : Int) (w : World) :
    Calls Tryd.prog 34 #[.string { data := #[33] }, .int .i64 a, .int .i64 b] w fun e w' => e = .returned (.tuple #[.agg #[.int .i64 0, .int .i64 0, .string { data := #[] }], .int .i64 0]) ∧ Below w.heap.size w w' := by
  go_enter Tryd.func34, Tryd.ntmps34
  go_wp2
  exact bodyPost_ret (v := .tuple #[.agg #[.int .i64 0, .int .i64 0, .string { data := #[] }], .int .i64 0]) (by simp [results, Tryd.results34, go_sem]) rfl ⟨rfl, (by repeat (first | exact Below.refl _ _ | (refine kb_setCell ?_ (by simp; omega)) | (refine kb_setCell ?_ (by simp)) | apply kb_alloc | (refine keep_below ?_ hb1) | (refine keep_below ?_ hb2)))⟩

set_option maxHeartbeats 400000 in
theorem rints_ask (a b : Int) (w : World) :
    Calls Tryd.prog 34 #[.string { data := #[63] }, .int .i64 a, .int .i64 b] w fun e w' => e = .returned (.tuple #[.agg #[.int .i64 0, .int .i64 0, .string { data := #[] }], .int .i64 0]) ∧ Below w.heap.size w w' := by
  go_enter Tryd.func34, Tryd.ntmps34
  go_wp2
  exact bodyPost_ret (v := .tuple #[.agg #[.int .i64 0, .int .i64 0, .string { data := #[] }], .int .i64 0]) (by simp [results, Tryd.results34, go_sem]) rfl ⟨rfl, (by repeat (first | exact Below.refl _ _ | (refine kb_setCell ?_ (by simp; omega)) | (refine kb_setCell ?_ (by simp)) | apply kb_alloc | (refine keep_below ?_ hb1) | (refine keep_below ?_ hb2)))⟩
end Go.Proofs.YtpighdioomjnmaaDoor.textsof
