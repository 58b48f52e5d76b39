/-
  Layer 16: whether there can be such a value, by the code and by the document. Written by an AI agent.
-/
import Derived.Test.YtpighdioomjnmabEdB
import Derived.Lib.Bytealg
namespace Go.Proofs.Ytpighdioomjnmab
open Go.RowKit Go.Shelf
set_option linter.unusedVariables false
set_option linter.unusedSimpArgs false

theorem emptyL : (({ data := #[] } : ByteArray).toList.isEmpty) = true := by rw [Lib.toList_data]; rfl
theorem empty_of {s : ByteArray} (h : s.toList.isEmpty = true) : s = { data := #[] } := by
  rw [Lib.toList_data] at h
  obtain ⟨d⟩ := s
  have : d.toList = [] := by simpa using h
  have : d = #[] := by simpa using this
  rw [this]

set_option maxHeartbeats 400000 in
theorem may_int (n : Int) (s : ByteArray) (w : World) :
    Calls Try.prog 42 #[.agg #[.int .i64 1, .int .i64 n, .string s]] w fun e w' => e = .returned (.bool (s.toList.isEmpty)) ∧ Below w.heap.size w w' := by
  go_enter Try.func42, Try.ntmps42
  go_wp2
  exact bodyPost_ret (v := .bool (s.toList.isEmpty)) (by simp [results, Try.results42, go_sem]) rfl ⟨rfl, (Below.refl _ _).alloc (Nat.le_refl _) _⟩

set_option maxHeartbeats 400000 in
theorem may_text (s : ByteArray) (w : World) :
    Calls Try.prog 42 #[.agg #[.int .i64 3, .int .i64 0, .string s]] w fun e w' => e = .returned (.bool (decide ((s.size : Int) ≤ 40))) ∧ Below w.heap.size w w' := by
  go_enter Try.func42, Try.ntmps42
  go_wp2
  exact bodyPost_ret (v := .bool (decide ((s.size : Int) ≤ 40))) (by simp [results, Try.results42, go_sem]) rfl ⟨rfl, (Below.refl _ _).alloc (Nat.le_refl _) _⟩

set_option maxHeartbeats 400000 in
theorem may_textN (n : Int) (s : ByteArray) (hn : ¬ n = 0) (w : World) :
    Calls Try.prog 42 #[.agg #[.int .i64 3, .int .i64 n, .string s]] w fun e w' => e = .returned (.bool (false)) ∧ Below w.heap.size w w' := by
  have hn' : (n == 0) = false := by simpa using hn
  go_enter Try.func42, Try.ntmps42
  go_wp2
  exact bodyPost_ret (v := .bool (false)) (by simp [results, Try.results42, go_sem]) rfl ⟨rfl, (Below.refl _ _).alloc (Nat.le_refl _) _⟩

set_option maxHeartbeats 400000 in
theorem may_bool (n : Int) (s : ByteArray) (h0 : 0 ≤ n) (h1 : n ≤ 1) (w : World) :
    Calls Try.prog 42 #[.agg #[.int .i64 2, .int .i64 n, .string s]] w fun e w' => e = .returned (.bool (s.toList.isEmpty)) ∧ Below w.heap.size w w' := by
  have a1 : ¬ 1 < n := by omega
  have a0 : ¬ n < 0 := by omega
  go_enter Try.func42, Try.ntmps42
  go_wp2
  exact bodyPost_ret (v := .bool (s.toList.isEmpty)) (by simp [results, Try.results42, go_sem]) rfl ⟨rfl, (Below.refl _ _).alloc (Nat.le_refl _) _⟩

set_option maxHeartbeats 400000 in
theorem may_boolM (n : Int) (s : ByteArray) (h1 : 1 < n) (w : World) :
    Calls Try.prog 42 #[.agg #[.int .i64 2, .int .i64 n, .string s]] w fun e w' => e = .returned (.bool (false)) ∧ Below w.heap.size w w' := by
  go_enter Try.func42, Try.ntmps42
  go_wp2
  exact bodyPost_ret (v := .bool (false)) (by simp [results, Try.results42, go_sem]) rfl ⟨rfl, (Below.refl _ _).alloc (Nat.le_refl _) _⟩

set_option maxHeartbeats 400000 in
theorem may_boolL (n : Int) (s : ByteArray) (h1 : n < 0) (w : World) :
    Calls Try.prog 42 #[.agg #[.int .i64 2, .int .i64 n, .string s]] w fun e w' => e = .returned (.bool (false)) ∧ Below w.heap.size w w' := by
  have a1 : ¬ 1 < n := by omega
  go_enter Try.func42, Try.ntmps42
  go_wp2
  exact bodyPost_ret (v := .bool (false)) (by simp [results, Try.results42, go_sem]) rfl ⟨rfl, (Below.refl _ _).alloc (Nat.le_refl _) _⟩

set_option maxHeartbeats 400000 in
theorem may_list (n : Int) (s : ByteArray) (h0 : 0 ≤ n) (w : World) :
    Calls Try.prog 42 #[.agg #[.int .i64 4, .int .i64 n, .string s]] w fun e w' => e = .returned (.bool (s.toList.isEmpty)) ∧ Below w.heap.size w w' := by
  have a0 : ¬ n < 0 := by omega
  go_enter Try.func42, Try.ntmps42
  go_wp2
  exact bodyPost_ret (v := .bool (s.toList.isEmpty)) (by simp [results, Try.results42, go_sem]) rfl ⟨rfl, (Below.refl _ _).alloc (Nat.le_refl _) _⟩

set_option maxHeartbeats 400000 in
theorem may_listL (n : Int) (s : ByteArray) (h1 : n < 0) (w : World) :
    Calls Try.prog 42 #[.agg #[.int .i64 4, .int .i64 n, .string s]] w fun e w' => e = .returned (.bool (false)) ∧ Below w.heap.size w w' := by
  go_enter Try.func42, Try.ntmps42
  go_wp2
  exact bodyPost_ret (v := .bool (false)) (by simp [results, Try.results42, go_sem]) rfl ⟨rfl, (Below.refl _ _).alloc (Nat.le_refl _) _⟩

set_option maxHeartbeats 400000 in
theorem may_none (t n : Int) (s : ByteArray) (h1 : ¬ t = 1) (h2 : ¬ t = 2) (h3 : ¬ t = 3) (h4 : ¬ t = 4) (w : World) :
    Calls Try.prog 42 #[.agg #[.int .i64 t, .int .i64 n, .string s]] w fun e w' => e = .returned (.bool (false)) ∧ Below w.heap.size w w' := by
  have b1 : (t == 1) = false := by simpa using h1
  have b2 : (t == 2) = false := by simpa using h2
  have b3 : (t == 3) = false := by simpa using h3
  have b4 : (t == 4) = false := by simpa using h4
  go_enter Try.func42, Try.ntmps42
  go_wp2
  exact bodyPost_ret (v := .bool (false)) (by simp [results, Try.results42, go_sem]) rfl ⟨rfl, (Below.refl _ _).alloc (Nat.le_refl _) _⟩

set_option maxHeartbeats 400000 in
theorem rmay_int (n : Int) (s : ByteArray) (w : World) :
    Calls Try.prog 43 #[.agg #[.int .i64 1, .int .i64 n, .string s]] w fun e w' => e = .returned (.bool (s.toList.isEmpty)) ∧ Below w.heap.size w w' := by
  go_enter Try.func43, Try.ntmps43
  go_wp2
  go_ret
  exact ⟨rfl, (Below.refl _ _).alloc (Nat.le_refl _) _⟩

set_option maxHeartbeats 400000 in
theorem rmay_bool0 (w : World) :
    Calls Try.prog 43 #[.agg #[.int .i64 2, .int .i64 0, .string { data := #[] }]] w fun e w' => e = .returned (.bool true) ∧ Below w.heap.size w w' := by
  go_enter Try.func43, Try.ntmps43
  go_wp2
  go_ret
  exact ⟨rfl, (Below.refl _ _).alloc (Nat.le_refl _) _⟩

set_option maxHeartbeats 400000 in
theorem rmay_bool1 (w : World) :
    Calls Try.prog 43 #[.agg #[.int .i64 2, .int .i64 1, .string { data := #[] }]] w fun e w' => e = .returned (.bool true) ∧ Below w.heap.size w w' := by
  go_enter Try.func43, Try.ntmps43
  go_wp2
  go_ret
  exact ⟨rfl, (Below.refl _ _).alloc (Nat.le_refl _) _⟩

set_option maxHeartbeats 400000 in
theorem rmay_boolN (n : Int) (h0 : ¬ n = 0) (h1 : ¬ n = 1) (w : World) :
    Calls Try.prog 43 #[.agg #[.int .i64 2, .int .i64 n, .string { data := #[] }]] w fun e w' => e = .returned (.bool false) ∧ Below w.heap.size w w' := by
  have h0' : (n == 0) = false := by simpa using h0
  have h1' : (n == 1) = false := by simpa using h1
  go_enter Try.func43, Try.ntmps43
  go_wp2
  go_ret
  exact ⟨rfl, (Below.refl _ _).alloc (Nat.le_refl _) _⟩

set_option maxHeartbeats 400000 in
theorem rmay_boolS (n : Int) (s : ByteArray) (hs : s.toList.isEmpty = false) (w : World) :
    Calls Try.prog 43 #[.agg #[.int .i64 2, .int .i64 n, .string s]] w fun e w' => e = .returned (.bool false) ∧ Below w.heap.size w w' := by
  go_enter Try.func43, Try.ntmps43
  go_wp2
  go_ret
  exact ⟨rfl, (Below.refl _ _).alloc (Nat.le_refl _) _⟩

set_option maxHeartbeats 400000 in
theorem rmay_text (s : ByteArray) (w : World) :
    Calls Try.prog 43 #[.agg #[.int .i64 3, .int .i64 0, .string s]] w fun e w' => e = .returned (.bool (decide ((s.size : Int) ≤ 40))) ∧ Below w.heap.size w w' := by
  go_enter Try.func43, Try.ntmps43
  go_wp2
  go_ret
  exact ⟨rfl, (Below.refl _ _).alloc (Nat.le_refl _) _⟩

set_option maxHeartbeats 400000 in
theorem rmay_textN (n : Int) (s : ByteArray) (h : ¬ n = 0) (w : World) :
    Calls Try.prog 43 #[.agg #[.int .i64 3, .int .i64 n, .string s]] w fun e w' => e = .returned (.bool false) ∧ Below w.heap.size w w' := by
  have h' : (n == 0) = false := by simpa using h
  go_enter Try.func43, Try.ntmps43
  go_wp2
  go_ret
  exact ⟨rfl, (Below.refl _ _).alloc (Nat.le_refl _) _⟩

set_option maxHeartbeats 400000 in
theorem rmay_list (n : Int) (h0 : 0 ≤ n) (w : World) :
    Calls Try.prog 43 #[.agg #[.int .i64 4, .int .i64 n, .string { data := #[] }]] w fun e w' => e = .returned (.bool true) ∧ Below w.heap.size w w' := by
  go_enter Try.func43, Try.ntmps43
  go_wp2
  go_ret
  exact ⟨rfl, (Below.refl _ _).alloc (Nat.le_refl _) _⟩

set_option maxHeartbeats 400000 in
theorem rmay_listL (n : Int) (h0 : ¬ 0 ≤ n) (w : World) :
    Calls Try.prog 43 #[.agg #[.int .i64 4, .int .i64 n, .string { data := #[] }]] w fun e w' => e = .returned (.bool false) ∧ Below w.heap.size w w' := by
  have h0' : decide (0 ≤ n) = false := by simpa using h0
  go_enter Try.func43, Try.ntmps43
  go_wp2
  go_ret
  exact ⟨rfl, (Below.refl _ _).alloc (Nat.le_refl _) _⟩

set_option maxHeartbeats 400000 in
theorem rmay_listS (n : Int) (s : ByteArray) (hs : s.toList.isEmpty = false) (w : World) :
    Calls Try.prog 43 #[.agg #[.int .i64 4, .int .i64 n, .string s]] w fun e w' => e = .returned (.bool false) ∧ Below w.heap.size w w' := by
  go_enter Try.func43, Try.ntmps43
  go_wp2
  go_ret
  exact ⟨rfl, (Below.refl _ _).alloc (Nat.le_refl _) _⟩

set_option maxHeartbeats 400000 in
theorem rmay_none (t n : Int) (s : ByteArray) (h1 : ¬ t = 1) (h2 : ¬ t = 2) (h3 : ¬ t = 3) (h4 : ¬ t = 4) (w : World) :
    Calls Try.prog 43 #[.agg #[.int .i64 t, .int .i64 n, .string s]] w fun e w' => e = .returned (.bool false) ∧ Below w.heap.size w w' := by
  have h1' : (t == 1) = false := by simpa using h1
  have h2' : (t == 2) = false := by simpa using h2
  have h3' : (t == 3) = false := by simpa using h3
  have h4' : (t == 4) = false := by simpa using h4
  go_enter Try.func43, Try.ntmps43
  go_wp2
  go_ret
  exact ⟨rfl, (Below.refl _ _).alloc (Nat.le_refl _) _⟩

def OkV (t n : Int) (x : ByteArray) : Prop :=
  (t = 1 ∧ x = { data := #[] }) ∨ (t = 2 ∧ x = { data := #[] } ∧ (n = 0 ∨ n = 1)) ∨ (t = 3 ∧ n = 0 ∧ x.size ≤ 40) ∨ (t = 4 ∧ x = { data := #[] } ∧ 0 ≤ n)

abbrev MayIs (t n : Int) (x : ByteArray) (b : Bool) : Prop := ∀ w, Calls Try.prog 42 #[.agg #[.int .i64 t, .int .i64 n, .string x]] w fun e w' => e = .returned (.bool b) ∧ Below w.heap.size w w'

theorem may_all (t n : Int) (x : ByteArray) : ∃ b : Bool, (b = true ↔ OkV t n x) ∧ MayIs t n x b := by
  have em : x = { data := #[] } → x.toList.isEmpty = true := fun h => by rw [h]; exact emptyL
  by_cases h1 : t = 1
  · subst h1
    exact ⟨_, ⟨fun h => Or.inl ⟨rfl, empty_of h⟩, fun h => by unfold OkV at h; exact em (by rcases h with h | h | h | h <;> simp_all)⟩, fun w => may_int n x w⟩
  by_cases h2 : t = 2
  · subst h2
    by_cases a : n < 0
    · exact ⟨_, ⟨(fun h => by cases h), fun h => by unfold OkV at h; exfalso; omega⟩, fun w => may_boolL n x a w⟩
    by_cases b : 1 < n
    · exact ⟨_, ⟨(fun h => by cases h), fun h => by unfold OkV at h; exfalso; omega⟩, fun w => may_boolM n x b w⟩
    exact ⟨_, ⟨fun h => Or.inr (Or.inl ⟨rfl, empty_of h, by omega⟩), fun h => by unfold OkV at h; exact em (by rcases h with h | h | h | h <;> simp_all)⟩, fun w => may_bool n x (by omega) (by omega) w⟩
  by_cases h3 : t = 3
  · subst h3
    by_cases a : n = 0
    · subst a
      exact ⟨_, ⟨fun h => Or.inr (Or.inr (Or.inl ⟨rfl, rfl, by have := of_decide_eq_true h; omega⟩)), fun h => by unfold OkV at h; exact decide_eq_true (by omega)⟩, fun w => may_text x w⟩
    · exact ⟨_, ⟨(fun h => by cases h), fun h => by unfold OkV at h; exfalso; omega⟩, fun w => may_textN n x a w⟩
  by_cases h4 : t = 4
  · subst h4
    by_cases a : n < 0
    · exact ⟨_, ⟨(fun h => by cases h), fun h => by unfold OkV at h; exfalso; omega⟩, fun w => may_listL n x a w⟩
    · exact ⟨_, ⟨fun h => Or.inr (Or.inr (Or.inr ⟨rfl, empty_of h, by omega⟩)), fun h => by unfold OkV at h; exact em (by rcases h with h | h | h | h <;> simp_all)⟩, fun w => may_list n x (by omega) w⟩
  exact ⟨_, ⟨(fun h => by cases h), fun h => by unfold OkV at h; exfalso; omega⟩, fun w => may_none t n x h1 h2 h3 h4 w⟩

theorem rmay_all (t n : Int) (x : ByteArray) : ∃ b : Bool, (b = true ↔ OkV t n x) ∧ ∀ w, Calls Try.prog 43 #[.agg #[.int .i64 t, .int .i64 n, .string x]] w fun e w' => e = .returned (.bool b) ∧ Below w.heap.size w w' := by
  have em : x = { data := #[] } → x.toList.isEmpty = true := fun h => by rw [h]; exact emptyL
  by_cases h1 : t = 1
  · subst h1
    exact ⟨_, ⟨fun h => Or.inl ⟨rfl, empty_of h⟩, fun h => by unfold OkV at h; exact em (by rcases h with h | h | h | h <;> simp_all)⟩, fun w => rmay_int n x w⟩
  by_cases h2 : t = 2
  · subst h2
    cases hx : x.toList.isEmpty with
    | false =>
      refine ⟨false, ⟨(fun h => by cases h), fun h => ?_⟩, fun w => rmay_boolS n x hx w⟩
      unfold OkV at h
      have : x = { data := #[] } := by rcases h with h | h | h | h <;> simp_all
      rw [em this] at hx
      cases hx
    | true =>
      have hE := empty_of hx
      subst hE
      by_cases a : n = 0
      · subst a
        exact ⟨true, ⟨fun _ => Or.inr (Or.inl ⟨rfl, rfl, Or.inl rfl⟩), fun _ => rfl⟩, fun w => rmay_bool0 w⟩
      by_cases b : n = 1
      · subst b
        exact ⟨true, ⟨fun _ => Or.inr (Or.inl ⟨rfl, rfl, Or.inr rfl⟩), fun _ => rfl⟩, fun w => rmay_bool1 w⟩
      exact ⟨false, ⟨(fun h => by cases h), fun h => by unfold OkV at h; exfalso; omega⟩, fun w => rmay_boolN n a b w⟩
  by_cases h3 : t = 3
  · subst h3
    by_cases a : n = 0
    · subst a
      exact ⟨_, ⟨fun h => Or.inr (Or.inr (Or.inl ⟨rfl, rfl, by have := of_decide_eq_true h; omega⟩)), fun h => by unfold OkV at h; exact decide_eq_true (by omega)⟩, fun w => rmay_text x w⟩
    · exact ⟨false, ⟨(fun h => by cases h), fun h => by unfold OkV at h; exfalso; omega⟩, fun w => rmay_textN n x a w⟩
  by_cases h4 : t = 4
  · subst h4
    cases hx : x.toList.isEmpty with
    | false =>
      refine ⟨false, ⟨(fun h => by cases h), fun h => ?_⟩, fun w => rmay_listS n x hx w⟩
      unfold OkV at h
      have : x = { data := #[] } := by rcases h with h | h | h | h <;> simp_all
      rw [em this] at hx
      cases hx
    | true =>
      have hE := empty_of hx
      subst hE
      by_cases a : 0 ≤ n
      · exact ⟨true, ⟨fun _ => Or.inr (Or.inr (Or.inr ⟨rfl, rfl, a⟩)), fun _ => rfl⟩, fun w => rmay_list n a w⟩
      · exact ⟨false, ⟨(fun h => by cases h), fun h => by unfold OkV at h; exfalso; omega⟩, fun w => rmay_listL n a w⟩
  exact ⟨false, ⟨(fun h => by cases h), fun h => by unfold OkV at h; exfalso; omega⟩, fun w => rmay_none t n x h1 h2 h3 h4 w⟩

theorem may_same (t n : Int) (x : ByteArray) : ∃ b : Bool, (b = true ↔ OkV t n x) ∧ MayIs t n x b ∧ ∀ w, Calls Try.prog 43 #[.agg #[.int .i64 t, .int .i64 n, .string x]] w fun e w' => e = .returned (.bool b) ∧ Below w.heap.size w w' := by
  obtain ⟨b, h1, h2⟩ := may_all t n x
  obtain ⟨c, k1, k2⟩ := rmay_all t n x
  have e : b = c := Bool.eq_iff_iff.2 (h1.trans k1.symm)
  subst e
  exact ⟨b, h1, h2, k2⟩

end Go.Proofs.Ytpighdioomjnmab
