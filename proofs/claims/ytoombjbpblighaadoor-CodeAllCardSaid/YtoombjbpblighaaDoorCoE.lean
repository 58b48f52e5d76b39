/-
  Layer 8: unlike instructions have unlike lines. Written by an AI agent.
-/
import Derived.Test.YtoombjbpblighaaDoorCoD
import Derived.Lib.ItoaMem
import Derived.Lib.Strings
namespace Go.Proofs.YtoombjbpblighaaDoor
open Go Go.RowKit Go.Shelf Go.Lib
set_option linter.unusedVariables false
set_option linter.unusedSimpArgs false

def valD (l : List UInt8) : Nat := l.foldl (fun a c => a * 10 + (c.toNat - 48)) 0

theorem valD_snoc (l : List UInt8) (c : UInt8) : valD (l ++ [c]) = valD l * 10 + (c.toNat - 48) := by
  unfold valD
  rw [List.foldl_append]
  rfl

theorem digit_toNat (k : Nat) (h : k < 10) : (UInt8.ofNat (48 + k)).toNat = 48 + k := by
  rw [UInt8.toNat_ofNat']
  exact Nat.mod_eq_of_lt (by omega)

theorem val_dec (u : Nat) : valD (decDigits u) = u := by
  induction u using Nat.strongRecOn with
  | _ u ih =>
    by_cases h : u < 10
    · rw [decDigits, dif_pos h]
      show 0 * 10 + ((UInt8.ofNat (48 + u)).toNat - 48) = u
      rw [digit_toNat u h]
      omega
    · rw [decDigits, dif_neg h, valD_snoc, ih (u / 10) (by omega), digit_toNat _ (by omega)]
      omega

theorem dec_big (u : Nat) : ∀ c ∈ decDigits u, 48 ≤ c.toNat := by
  induction u using Nat.strongRecOn with
  | _ u ih =>
    intro c hc
    by_cases h : u < 10
    · rw [decDigits, dif_pos h] at hc
      rw [List.mem_singleton.1 hc, digit_toNat u h]
      omega
    · rw [decDigits, dif_neg h] at hc
      rcases List.mem_append.1 hc with h1 | h1
      · exact ih (u / 10) (by omega) c h1
      · rw [List.mem_singleton.1 h1, digit_toNat _ (by omega)]
        omega

theorem dec_inj {u v : Nat} (h : decDigits u = decDigits v) : u = v := by
  rw [← val_dec u, ← val_dec v, h]

theorem dec_no_minus (u : Nat) (l : List UInt8) : ¬ decDigits u = 45 :: l := by
  intro h
  have := dec_big u 45 (by rw [h]; simp)
  exact absurd this (by decide)

theorem itoa_inj {a b : Int} (h : itoa a = itoa b) : a = b := by
  unfold itoa at h
  by_cases ha : a < 0 <;> by_cases hb : b < 0
  · rw [if_pos ha, if_pos hb] at h
    have := dec_inj (List.cons.inj h).2
    omega
  · rw [if_pos ha, if_neg hb] at h
    exact absurd h.symm (dec_no_minus _ _)
  · rw [if_neg ha, if_pos hb] at h
    exact absurd h (dec_no_minus _ _)
  · rw [if_neg ha, if_neg hb] at h
    have := dec_inj h
    omega


theorem itoa_no (n : Int) : (32 : UInt8) ∉ itoa n := by
  intro h
  unfold itoa at h
  split at h
  · rcases List.mem_cons.1 h with h | h
    · revert h; decide
    · have := dec_big _ _ h
      revert this; decide
  · have := dec_big _ _ h
    revert this; decide

/-- Up to the first blank. -/
theorem blank_split {x y r q : List UInt8} (hx : (32 : UInt8) ∉ x) (hy : (32 : UInt8) ∉ y) (hr : r = [] ∨ ∃ t, r = 32 :: t) (hq : q = [] ∨ ∃ t, q = 32 :: t) (h : x ++ r = y ++ q) : x = y ∧ r = q := by
  induction x generalizing y with
  | nil =>
    cases y with
    | nil => exact ⟨rfl, h⟩
    | cons c y =>
      rcases hr with rfl | ⟨t, rfl⟩
      · simp at h
      · simp only [List.nil_append, List.cons_append, List.cons.injEq] at h
        exact absurd (by rw [← h.1]; simp) hy
  | cons d x ih =>
    cases y with
    | nil =>
      rcases hq with rfl | ⟨t, rfl⟩
      · simp at h
      · simp only [List.nil_append, List.cons_append, List.cons.injEq] at h
        exact absurd (by rw [h.1]; simp) hx
    | cons c y =>
      simp only [List.cons_append, List.cons.injEq] at h
      obtain ⟨e1, e2⟩ := ih (fun hm => hx (by simp [hm])) (fun hm => hy (by simp [hm])) h.2
      exact ⟨by rw [h.1, e1], e2⟩

theorem names_facts : ∀ k, k < 23 → namesL.getD k [] ≠ [] ∧ (∀ c ∈ namesL.getD k [], 97 ≤ c.toNat ∧ c.toNat ≤ 122) := by decide +kernel
theorem names_unlike : ∀ k, k < 23 → ∀ j, j < 23 → namesL.getD k [] = namesL.getD j [] → k = j := by decide +kernel
theorem name_in {op : Int} (h : nameN op ≠ []) : 1 ≤ op ∧ op ≤ 23 := by
  unfold nameN at h
  split at h
  · assumption
  · exact absurd rfl h
theorem name_eq {op : Int} (h : 1 ≤ op ∧ op ≤ 23) : nameN op = namesL.getD (op - 1).toNat [] := by unfold nameN; rw [if_pos h]
theorem name_letters (op : Int) : ∀ c ∈ nameN op, 97 ≤ c.toNat ∧ c.toNat ≤ 122 := by
  intro c hc
  by_cases h : 1 ≤ op ∧ op ≤ 23
  · rw [name_eq h] at hc
    exact (names_facts _ (by omega)).2 c hc
  · unfold nameN at hc
    rw [if_neg h] at hc
    cases hc
theorem name_no (op : Int) : (32 : UInt8) ∉ nameN op := fun h => by
  have := name_letters op 32 h
  revert this
  decide
theorem name_some {op : Int} (h : 1 ≤ op ∧ op ≤ 23) : nameN op ≠ [] := by rw [name_eq h]; exact (names_facts _ (by omega)).1
theorem name_inj {op op' : Int} (h : nameN op ≠ []) (h' : nameN op = nameN op') : op = op' := by
  have h1 := name_in h
  have h2 := name_in (h' ▸ h)
  rw [name_eq h1, name_eq h2] at h'
  have := names_unlike _ (by omega) _ (by omega) h'
  omega

/-- What stands behind a name. -/
def restN (o a b : Int) (s : List UInt8) : List UInt8 := (if o = 1 ∨ o = 3 then 32 :: itoa a else []) ++ (if o = 3 then 32 :: itoa b else []) ++ (if o = 4 then 32 :: s else [])
theorem line_rest (op a b : Int) (s : List UInt8) : lineN op a b s = nameN op ++ restN (hasN op) a b s := by unfold lineN restN; simp
theorem rest_apart (o a b : Int) (s : List UInt8) (h : o = 0 ∨ o = 1 ∨ o = 3 ∨ o = 4) : restN o a b s = [] ∨ ∃ t, restN o a b s = 32 :: t := by
  rcases h with rfl | rfl | rfl | rfl
  · exact .inl rfl
  · exact .inr ⟨_, rfl⟩
  · exact .inr ⟨_, rfl⟩
  · exact .inr ⟨_, rfl⟩

theorem may_parts {op a b : Int} {s : ByteArray} (h : mayN op a b s = true) : nameN op ≠ [] ∧ (hasN op = 0 ∨ hasN op = 4 → a = 0) ∧ (hasN op = 0 ∨ hasN op = 1 ∨ hasN op = 4 → b = 0) ∧ (hasN op = 0 ∨ hasN op = 1 ∨ hasN op = 3 → s.size = 0) := by
  unfold mayN at h
  simp only [Bool.and_eq_true, Bool.not_eq_true', decide_eq_false_iff_not] at h
  obtain ⟨h1, h2, _⟩ := h
  refine ⟨h2, ?_, ?_, ?_⟩ <;> (unfold badN at h1; intro hq; rcases has_four op with e | e | e | e <;> rw [e] at h1 hq <;> simp at h1 hq ⊢ <;> (first | exact h1 | exact h1.1 | exact h1.2 | exact h1.1.1 | exact h1.1.2 | skip))

theorem line_inj {op a b : Int} {s : ByteArray} {op' a' b' : Int} {s' : ByteArray} (h : mayN op a b s = true) (h' : mayN op' a' b' s' = true) (e : lineN op a b s.data.toList = lineN op' a' b' s'.data.toList) : op = op' ∧ a = a' ∧ b = b' ∧ s = s' := by
  obtain ⟨n1, p1, p2, p3⟩ := may_parts h
  obtain ⟨m1, q1, q2, q3⟩ := may_parts h'
  rw [line_rest, line_rest] at e
  obtain ⟨e1, e2⟩ := blank_split (name_no op) (name_no op') (rest_apart _ _ _ _ (has_four op)) (rest_apart _ _ _ _ (has_four op')) e
  have hop := name_inj n1 e1
  subst hop
  have hempty : ∀ x y : ByteArray, x.size = 0 → y.size = 0 → x = y := fun x y hx hy => bytes_ext ((List.length_eq_zero_iff.1 (by rw [len_size]; exact hx)).trans (List.length_eq_zero_iff.1 (by rw [len_size]; exact hy)).symm)
  refine ⟨rfl, ?_⟩
  rcases has_four op with o | o | o | o <;> rw [o] at p1 p2 p3 q1 q2 q3 e2
  · exact ⟨by rw [p1 (by simp), q1 (by simp)], by rw [p2 (by simp), q2 (by simp)], hempty _ _ (p3 (by simp)) (q3 (by simp))⟩
  · have e3 : (32 :: itoa a) = 32 :: itoa a' := by simpa [restN] using e2
    exact ⟨itoa_inj (List.cons.inj e3).2, by rw [p2 (by simp), q2 (by simp)], hempty _ _ (p3 (by simp)) (q3 (by simp))⟩
  · have e3 : itoa a ++ 32 :: itoa b = itoa a' ++ 32 :: itoa b' := by simpa [restN] using e2
    obtain ⟨e4, e5⟩ := blank_split (itoa_no a) (itoa_no a') (.inr ⟨_, rfl⟩) (.inr ⟨_, rfl⟩) e3
    exact ⟨itoa_inj e4, itoa_inj (List.cons.inj e5).2, hempty _ _ (p3 (by simp)) (q3 (by simp))⟩
  · have e3 : s.data.toList = s'.data.toList := by simpa [restN] using e2
    exact ⟨by rw [p1 (by simp), q1 (by simp)], by rw [p2 (by simp), q2 (by simp)], bytes_ext e3⟩

end Go.Proofs.YtoombjbpblighaaDoor
