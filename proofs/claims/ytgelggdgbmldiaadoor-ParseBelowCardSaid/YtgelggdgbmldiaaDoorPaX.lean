/-
  Layer 2: what a lexer's tokens are like. Written by an AI agent.
-/
import Derived.Test.YtgelggdgbmldiaaDoorPaM
namespace Go.Proofs.YtgelggdgbmldiaaDoor
open Go.RowKit Go.Shelf
set_option linter.unusedVariables false
set_option linter.unusedSimpArgs false

/-- A token that is not the end. -/
def TokIn (m : Nat) (t : Tok) : Prop := t.k ≠ 0 ∧ (t.k = 1 → t.x ≠ [] ∧ (∀ c ∈ t.x, dig c = true) ∧ numV t.x ≤ 9223372036854775807) ∧ t.x.length ≤ m ∧ t.p ≤ m
def TokL (m : Nat) (T : List Tok) : Prop := ∃ I e, T = I ++ [e] ∧ e.k = 0 ∧ e.x = [] ∧ e.p ≤ m ∧ ∀ t ∈ I, TokIn m t

theorem first_tok (l : List UInt8) (h : (firstL l).2.2 = 0) (hl : l ≠ []) : (firstL l).1 ≠ 0 ∧ ((firstL l).1 = 1 → saidL (firstL l).1 (l.take (firstL l).2.1) ≠ [] ∧ (∀ c ∈ saidL (firstL l).1 (l.take (firstL l).2.1), dig c = true) ∧ numV (saidL (firstL l).1 (l.take (firstL l).2.1)) ≤ 9223372036854775807) := by
  obtain ⟨c, r, rfl⟩ := List.exists_cons_of_ne_nil hl
  rw [firstL_cons] at h ⊢
  by_cases h1 : dig c = true
  · rw [if_pos h1] at h ⊢
    have hr : runL dig (c :: r) = runL dig r + 1 := by show (if dig c then _ else 0) = _; rw [if_pos h1]
    unfold numberL at h ⊢
    split at h
    · rename_i hc
      rw [if_pos hc]
      refine ⟨by simp, fun _ => ?_⟩
      show saidL 1 _ ≠ [] ∧ _
      have e : saidL 1 ((c :: r).take (runL dig (c :: r))) = (c :: r).take (runL dig (c :: r)) := if_neg (by decide)
      rw [show (((1 : Nat), runL dig (c :: r), (0 : Nat)) : Nat × Nat × Nat).2.1 = runL dig (c :: r) from rfl, show (((1 : Nat), runL dig (c :: r), (0 : Nat)) : Nat × Nat × Nat).1 = 1 from rfl, e]
      refine ⟨?_, runL_all dig (c :: r), hc.1⟩
      rw [hr]
      simp
    · cases h
  · rw [if_neg h1] at h ⊢
    by_cases h2 : ltr c = true
    · rw [if_pos h2] at h ⊢
      unfold nameL at h ⊢
      split
      · exact ⟨by simp, fun h => by simp at h⟩
      · rename_i hw
        rw [if_neg hw] at h
        split
        · rename_i h8
          rw [if_pos h8] at h
          cases h
        · exact ⟨by simp, fun h => by simp at h⟩
    · rw [if_neg h2] at h ⊢
      by_cases h3 : c = 34
      · rw [if_pos h3] at h ⊢
        unfold textL at h ⊢
        split
        · rename_i hw
          rw [if_pos hw] at h
          split
          · rename_i h8
            rw [if_pos h8] at h
            cases h
          · exact ⟨by simp, fun h => by simp at h⟩
        · rename_i hw
          rw [if_neg hw] at h
          cases h
      · rw [if_neg h3] at h ⊢
        unfold signL at h ⊢
        split
        · exact ⟨by simp, fun h => by simp at h⟩
        · rename_i hw
          rw [if_neg hw] at h
          split
          · exact ⟨by simp, fun h => by simp at h⟩
          · rename_i h8
            rw [if_neg h8] at h
            cases h

theorem said_len (k : Nat) (l : List UInt8) : (saidL k l).length ≤ l.length := by
  unfold saidL
  split
  · rw [List.length_drop, List.length_take]; omega
  · exact Nat.le_refl _

theorem lex_tokL (m : Nat) (l : List UInt8) (p : Nat) : p + l.length ≤ m → (lexL l p).2 = none → TokL m (lexL l p).1 := by
  refine lexL_ind (P := fun l p => p + l.length ≤ m → (lexL l p).2 = none → TokL m (lexL l p).1) ?_ ?_ ?_ ?_ ?_ ?_ l p
  · intro p hm _
    exact ⟨[], ⟨0, [], p⟩, rfl, rfl, rfl, by simpa using hm, fun t ht => by cases ht⟩
  · intro c r p h ih hm he
    rw [lexL_blank h] at he ⊢
    exact ih (by rw [List.length_cons] at hm; omega) he
  · intro c r p h h1 h2 hm he
    rw [lexL_rem_end h h1 h2]
    exact ⟨[], ⟨0, [], p + (c :: r).length⟩, rfl, rfl, rfl, hm, fun t ht => by cases ht⟩
  · intro c r p h h1 h2 ih hm he
    rw [lexL_rem h h1 h2] at he ⊢
    refine ih ?_ he
    have := runL_le (fun d => !decide (d = 10)) (c :: r)
    rw [List.length_drop]
    omega
  · intro c r p h h1 h2 hm he
    rw [lexL_bad h h1 h2] at he
    cases he
  · intro c r p h h1 h2 ih hm he
    have hs := first_size (c :: r) (by simp) h2
    have hf := first_tok (c :: r) h2 (by simp)
    rw [lexL_tok h h1 h2] at he ⊢
    obtain ⟨I, e, hT, h3, h4, h5, h6⟩ := ih (by rw [List.length_drop]; omega) he
    refine ⟨⟨(firstL (c :: r)).1, saidL (firstL (c :: r)).1 ((c :: r).take (firstL (c :: r)).2.1), p⟩ :: I, e, by rw [hT]; rfl, h3, h4, h5, fun t ht => ?_⟩
    rcases List.mem_cons.1 ht with rfl | ht
    · refine ⟨hf.1, hf.2, ?_, by show p ≤ m; omega⟩
      have h7 := said_len (firstL (c :: r)).1 ((c :: r).take (firstL (c :: r)).2.1)
      rw [List.length_take] at h7
      show (saidL _ _).length ≤ m
      omega
    · exact h6 t ht

theorem tokOK_of {m : Nat} {T : List Tok} (h : TokL m T) (hm : m ≤ 1000) (hl : T.length ≤ 1000) : TokOK T := by
  obtain ⟨I, e, rfl, h1, h2, h3, h4⟩ := h
  have hL : (I ++ [e]).length - 1 = I.length := by simp
  have hlast : (I ++ [e]).getD I.length default = e := by simp [List.getD]
  have hin : ∀ i, i < I.length → TokIn m ((I ++ [e]).getD i default) := fun i hi => by
    have : (I ++ [e]).getD i default = I[i] := by rw [List.getD, List.getElem?_append_left hi, List.getElem?_eq_getElem hi]; rfl
    rw [this]
    exact h4 _ (List.getElem_mem _)
  have all : ∀ i, i < (I ++ [e]).length → i < I.length ∨ i = I.length := fun i hi => by rw [List.length_append, List.length_singleton] at hi; omega
  refine ⟨by simp, hl, by rw [hL, hlast]; exact h1, fun i hi => (hin i (by rw [hL] at hi; exact hi)).1, fun i hi hk => ?_, fun i hi => ?_, fun i hi => ?_⟩
  · rcases all i hi with h5 | rfl
    · exact (hin i h5).2.1 hk
    · rw [hlast, h1] at hk; cases hk
  · rcases all i hi with h5 | rfl
    · exact Nat.le_trans (hin i h5).2.2.1 hm
    · rw [hlast, h2]; exact Nat.zero_le _
  · rcases all i hi with h5 | rfl
    · exact Nat.le_trans (hin i h5).2.2.2 hm
    · rw [hlast]; exact Nat.le_trans h3 hm

theorem tokOK_lex (l : List UInt8) (hl : l.length ≤ 600) (h : (lexL l 0).2 = none) : TokOK (lexL l 0).1 :=
  tokOK_of (lex_tokL 600 l 0 (by omega) h) (by omega) (by have := tokens_le l 0; omega)

end Go.Proofs.YtgelggdgbmldiaaDoor
