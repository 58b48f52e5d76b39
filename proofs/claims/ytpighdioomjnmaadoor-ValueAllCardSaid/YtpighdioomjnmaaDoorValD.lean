/-
  Layer 5: contracts of May, of short, and of signs that hold for each type. Written by an AI agent.
-/
import Derived.Test.YtpighdioomjnmaaDoorValC
namespace Go.Proofs.YtpighdioomjnmaaDoor.textsof
open Go.RowKit

set_option maxHeartbeats 400000 in
theorem short_under (t n : Int) (s : ByteArray) (hs : s.size ≤ 60) (w : World) :
    Calls Tryd.prog 11 #[.agg #[.int .i64 t, .int .i64 n, .string s]] w fun e w' => e = .returned (.agg #[.int .i64 t, .int .i64 n, .string s]) ∧ Below w.heap.size w w' := by
  have h2 : ¬ (60 : Int) < (s.size : Int) := by omega
  go_enter Tryd.func11, Tryd.ntmps11
  go_wp2
  exact bodyPost_ret (v := .agg #[.int .i64 t, .int .i64 n, .string s]) (by simp [results, Tryd.results11, go_sem]) rfl ⟨rfl, ((Below.refl _ _).alloc (Nat.le_refl _) _).alloc (by simp) _⟩

set_option maxHeartbeats 400000 in
theorem short_over (t n : Int) (s : ByteArray) (hs : 60 < s.size) (w : World) :
    Calls Tryd.prog 11 #[.agg #[.int .i64 t, .int .i64 n, .string s]] w fun e w' => e = .returned (.agg #[.int .i64 t, .int .i64 n, .string (s.extract 0 60)]) ∧ Below w.heap.size w w' := by
  have h2 : (60 : Int) < (s.size : Int) := by omega
  have h3 : (60 : Int) ≤ (s.size : Int) := by omega
  go_enter Tryd.func11, Tryd.ntmps11
  go_wp2
  exact bodyPost_ret (v := .agg #[.int .i64 t, .int .i64 n, .string (s.extract 0 60)]) (by simp [results, Tryd.results11, go_sem]) rfl ⟨rfl, by repeat (first | exact Below.refl _ _ | exact ((Below.refl _ _).alloc (Nat.le_refl _) _).alloc (by simp) _ | refine Below.setCell ?_ (by simp) _ | refine Below.alloc ?_ (by simp) _)⟩

set_option maxHeartbeats 400000 in
theorem may_int (n : Int) (s : ByteArray) (w : World) :
    Calls Tryd.prog 25 #[.agg #[.int .i64 1, .int .i64 n, .string s]] w fun e w' => e = .returned (.bool (s.toList.isEmpty)) ∧ Below w.heap.size w w' := by
  go_enter Tryd.func25, Tryd.ntmps25
  go_wp2
  exact bodyPost_ret (v := .bool (s.toList.isEmpty)) (by simp [results, Tryd.results25, go_sem]) rfl ⟨rfl, (Below.refl _ _).alloc (Nat.le_refl _) _⟩

set_option maxHeartbeats 400000 in
theorem may_text (s : ByteArray) (w : World) :
    Calls Tryd.prog 25 #[.agg #[.int .i64 3, .int .i64 0, .string s]] w fun e w' => e = .returned (.bool (decide ((s.size : Int) ≤ 40))) ∧ Below w.heap.size w w' := by
  go_enter Tryd.func25, Tryd.ntmps25
  go_wp2
  exact bodyPost_ret (v := .bool (decide ((s.size : Int) ≤ 40))) (by simp [results, Tryd.results25, go_sem]) rfl ⟨rfl, (Below.refl _ _).alloc (Nat.le_refl _) _⟩

set_option maxHeartbeats 400000 in
theorem may_textN (n : Int) (s : ByteArray) (hn : ¬ n = 0) (w : World) :
    Calls Tryd.prog 25 #[.agg #[.int .i64 3, .int .i64 n, .string s]] w fun e w' => e = .returned (.bool (false)) ∧ Below w.heap.size w w' := by
  have hn' : (n == 0) = false := by simpa using hn
  go_enter Tryd.func25, Tryd.ntmps25
  go_wp2
  exact bodyPost_ret (v := .bool (false)) (by simp [results, Tryd.results25, go_sem]) rfl ⟨rfl, (Below.refl _ _).alloc (Nat.le_refl _) _⟩

set_option maxHeartbeats 400000 in
theorem may_bool (n : Int) (s : ByteArray) (h0 : 0 ≤ n) (h1 : n ≤ 1) (w : World) :
    Calls Tryd.prog 25 #[.agg #[.int .i64 2, .int .i64 n, .string s]] w fun e w' => e = .returned (.bool (s.toList.isEmpty)) ∧ Below w.heap.size w w' := by
  have a1 : ¬ 1 < n := by omega
  have a0 : ¬ n < 0 := by omega
  go_enter Tryd.func25, Tryd.ntmps25
  go_wp2
  exact bodyPost_ret (v := .bool (s.toList.isEmpty)) (by simp [results, Tryd.results25, go_sem]) rfl ⟨rfl, (Below.refl _ _).alloc (Nat.le_refl _) _⟩

set_option maxHeartbeats 400000 in
theorem may_boolM (n : Int) (s : ByteArray) (h1 : 1 < n) (w : World) :
    Calls Tryd.prog 25 #[.agg #[.int .i64 2, .int .i64 n, .string s]] w fun e w' => e = .returned (.bool (false)) ∧ Below w.heap.size w w' := by
  go_enter Tryd.func25, Tryd.ntmps25
  go_wp2
  exact bodyPost_ret (v := .bool (false)) (by simp [results, Tryd.results25, go_sem]) rfl ⟨rfl, (Below.refl _ _).alloc (Nat.le_refl _) _⟩

set_option maxHeartbeats 400000 in
theorem may_boolL (n : Int) (s : ByteArray) (h1 : n < 0) (w : World) :
    Calls Tryd.prog 25 #[.agg #[.int .i64 2, .int .i64 n, .string s]] w fun e w' => e = .returned (.bool (false)) ∧ Below w.heap.size w w' := by
  have a1 : ¬ 1 < n := by omega
  go_enter Tryd.func25, Tryd.ntmps25
  go_wp2
  exact bodyPost_ret (v := .bool (false)) (by simp [results, Tryd.results25, go_sem]) rfl ⟨rfl, (Below.refl _ _).alloc (Nat.le_refl _) _⟩

set_option maxHeartbeats 400000 in
theorem may_list (n : Int) (s : ByteArray) (h0 : 0 ≤ n) (w : World) :
    Calls Tryd.prog 25 #[.agg #[.int .i64 4, .int .i64 n, .string s]] w fun e w' => e = .returned (.bool (s.toList.isEmpty)) ∧ Below w.heap.size w w' := by
  have a0 : ¬ n < 0 := by omega
  go_enter Tryd.func25, Tryd.ntmps25
  go_wp2
  exact bodyPost_ret (v := .bool (s.toList.isEmpty)) (by simp [results, Tryd.results25, go_sem]) rfl ⟨rfl, (Below.refl _ _).alloc (Nat.le_refl _) _⟩

set_option maxHeartbeats 400000 in
theorem may_listL (n : Int) (s : ByteArray) (h1 : n < 0) (w : World) :
    Calls Tryd.prog 25 #[.agg #[.int .i64 4, .int .i64 n, .string s]] w fun e w' => e = .returned (.bool (false)) ∧ Below w.heap.size w w' := by
  go_enter Tryd.func25, Tryd.ntmps25
  go_wp2
  exact bodyPost_ret (v := .bool (false)) (by simp [results, Tryd.results25, go_sem]) rfl ⟨rfl, (Below.refl _ _).alloc (Nat.le_refl _) _⟩

set_option maxHeartbeats 400000 in
theorem may_none (t n : Int) (s : ByteArray) (h1 : ¬ t = 1) (h2 : ¬ t = 2) (h3 : ¬ t = 3) (h4 : ¬ t = 4) (w : World) :
    Calls Tryd.prog 25 #[.agg #[.int .i64 t, .int .i64 n, .string s]] w fun e w' => e = .returned (.bool (false)) ∧ Below w.heap.size w w' := by
  have b1 : (t == 1) = false := by simpa using h1
  have b2 : (t == 2) = false := by simpa using h2
  have b3 : (t == 3) = false := by simpa using h3
  have b4 : (t == 4) = false := by simpa using h4
  go_enter Tryd.func25, Tryd.ntmps25
  go_wp2
  exact bodyPost_ret (v := .bool (false)) (by simp [results, Tryd.results25, go_sem]) rfl ⟨rfl, (Below.refl _ _).alloc (Nat.le_refl _) _⟩

set_option maxHeartbeats 400000 in
theorem bin_eq (t n : Int) (s u : ByteArray) (h1 : 1 ≤ t) (h4 : t ≤ 4) (w : World) :
    Calls Tryd.prog 13 #[.string { data := #[61, 61] }, .agg #[.int .i64 t, .int .i64 n, .string s], .agg #[.int .i64 t, .int .i64 n, .string u]] w fun e w' => e = .returned (.tuple #[.agg #[.int .i64 2, .int .i64 (bN ((s.toList == u.toList))), .string { data := #[] }], .int .i64 0]) ∧ Below w.heap.size w w' := by
  have e1 : ¬ t < 1 := by omega
  have e4 : ¬ 4 < t := by omega
  skip
  go_enter Tryd.func13, Tryd.ntmps13
  go_wp2_with (go_at_call 17; refine (bool_any ((s.toList == u.toList)) _).mono ?_; rintro e w1 ⟨rfl, hb1⟩; obtain ⟨hc1, hf1⟩ := bcell hb1; have hz1 := hb1.size)
  exact bodyPost_ret (v := .tuple #[.agg #[.int .i64 2, .int .i64 (bN ((s.toList == u.toList))), .string { data := #[] }], .int .i64 0]) (by simp [results, Tryd.results13, go_sem, hc1]) rfl ⟨rfl, (((((((Below.refl _ _).alloc (Nat.le_refl _) _).alloc (by simp) _).alloc (by simp; omega) _).trans (hb1.mono (by simp; omega))).setCell (by simp; omega) _).setCell (by simp; omega) _).setCell (by simp; omega) _⟩

set_option maxHeartbeats 400000 in
theorem bin_eqN (t n m : Int) (s u : ByteArray) (h1 : 1 ≤ t) (h4 : t ≤ 4) (hnm : ¬ n = m) (w : World) :
    Calls Tryd.prog 13 #[.string { data := #[61, 61] }, .agg #[.int .i64 t, .int .i64 n, .string s], .agg #[.int .i64 t, .int .i64 m, .string u]] w fun e w' => e = .returned (.tuple #[.agg #[.int .i64 2, .int .i64 (bN ((false))), .string { data := #[] }], .int .i64 0]) ∧ Below w.heap.size w w' := by
  have e1 : ¬ t < 1 := by omega
  have e4 : ¬ 4 < t := by omega
  have hn' : (n == m) = false := by simpa using hnm
  go_enter Tryd.func13, Tryd.ntmps13
  go_wp2_with (go_at_call 17; refine (bool_any ((false)) _).mono ?_; rintro e w1 ⟨rfl, hb1⟩; obtain ⟨hc1, hf1⟩ := bcell hb1; have hz1 := hb1.size)
  exact bodyPost_ret (v := .tuple #[.agg #[.int .i64 2, .int .i64 (bN ((false))), .string { data := #[] }], .int .i64 0]) (by simp [results, Tryd.results13, go_sem, hc1]) rfl ⟨rfl, (((((((Below.refl _ _).alloc (Nat.le_refl _) _).alloc (by simp) _).alloc (by simp; omega) _).trans (hb1.mono (by simp; omega))).setCell (by simp; omega) _).setCell (by simp; omega) _).setCell (by simp; omega) _⟩

set_option maxHeartbeats 400000 in
theorem bin_ne (t n : Int) (s u : ByteArray) (h1 : 1 ≤ t) (h4 : t ≤ 4) (w : World) :
    Calls Tryd.prog 13 #[.string { data := #[33, 61] }, .agg #[.int .i64 t, .int .i64 n, .string s], .agg #[.int .i64 t, .int .i64 n, .string u]] w fun e w' => e = .returned (.tuple #[.agg #[.int .i64 2, .int .i64 (bN (!(s.toList == u.toList))), .string { data := #[] }], .int .i64 0]) ∧ Below w.heap.size w w' := by
  have e1 : ¬ t < 1 := by omega
  have e4 : ¬ 4 < t := by omega
  skip
  go_enter Tryd.func13, Tryd.ntmps13
  go_wp2_with (go_at_call 17; refine (bool_any (!(s.toList == u.toList)) _).mono ?_; rintro e w1 ⟨rfl, hb1⟩; obtain ⟨hc1, hf1⟩ := bcell hb1; have hz1 := hb1.size)
  exact bodyPost_ret (v := .tuple #[.agg #[.int .i64 2, .int .i64 (bN (!(s.toList == u.toList))), .string { data := #[] }], .int .i64 0]) (by simp [results, Tryd.results13, go_sem, hc1]) rfl ⟨rfl, (((((((Below.refl _ _).alloc (Nat.le_refl _) _).alloc (by simp) _).alloc (by simp; omega) _).trans (hb1.mono (by simp; omega))).setCell (by simp; omega) _).setCell (by simp; omega) _).setCell (by simp; omega) _⟩

set_option maxHeartbeats 400000 in
theorem bin_neN (t n m : Int) (s u : ByteArray) (h1 : 1 ≤ t) (h4 : t ≤ 4) (hnm : ¬ n = m) (w : World) :
    Calls Tryd.prog 13 #[.string { data := #[33, 61] }, .agg #[.int .i64 t, .int .i64 n, .string s], .agg #[.int .i64 t, .int .i64 m, .string u]] w fun e w' => e = .returned (.tuple #[.agg #[.int .i64 2, .int .i64 (bN (!(false))), .string { data := #[] }], .int .i64 0]) ∧ Below w.heap.size w w' := by
  have e1 : ¬ t < 1 := by omega
  have e4 : ¬ 4 < t := by omega
  have hn' : (n == m) = false := by simpa using hnm
  go_enter Tryd.func13, Tryd.ntmps13
  go_wp2_with (go_at_call 17; refine (bool_any (!(false)) _).mono ?_; rintro e w1 ⟨rfl, hb1⟩; obtain ⟨hc1, hf1⟩ := bcell hb1; have hz1 := hb1.size)
  exact bodyPost_ret (v := .tuple #[.agg #[.int .i64 2, .int .i64 (bN (!(false))), .string { data := #[] }], .int .i64 0]) (by simp [results, Tryd.results13, go_sem, hc1]) rfl ⟨rfl, (((((((Below.refl _ _).alloc (Nat.le_refl _) _).alloc (by simp) _).alloc (by simp; omega) _).trans (hb1.mono (by simp; omega))).setCell (by simp; omega) _).setCell (by simp; omega) _).setCell (by simp; omega) _⟩

set_option maxHeartbeats 400000 in
theorem bin_types (g : ByteArray) (t x n m : Int) (s u : ByteArray) (h : ¬ t = x) (w : World) :
    Calls Tryd.prog 13 #[.string g, .agg #[.int .i64 t, .int .i64 n, .string s], .agg #[.int .i64 x, .int .i64 m, .string u]] w fun e w' => e = .returned (.tuple #[.agg #[.int .i64 0, .int .i64 0, .string { data := #[] }], .int .i64 0]) ∧ Below w.heap.size w w' := by
  have hn' : (t == x) = false := by simpa using h
  go_enter Tryd.func13, Tryd.ntmps13
  go_wp2
  exact bodyPost_ret (v := .tuple #[.agg #[.int .i64 0, .int .i64 0, .string { data := #[] }], .int .i64 0]) (by simp [results, Tryd.results13, go_sem]) rfl ⟨rfl, (((((Below.refl _ _).alloc (Nat.le_refl _) _).alloc (by simp) _).alloc (by simp; omega) _))⟩
end Go.Proofs.YtpighdioomjnmaaDoor.textsof
