/-
  Layer 2: what a lexer's tokens are like. Written by an AI agent.
  Layer 2: the data of the program's parser comes to an end: statements, functions, the whole. Written by an AI agent.
  Layer 2: a source, and more behind it: the same error at the same token. Written by an AI agent.
  Layer 2: two sources, one behind the other: the functions and nodes of both (data). Written by an AI agent.
-/
import Derived.Test.YtgelggdgbmldiaaDoorMaae
import Derived.Test.YtgelggdgbmldiaaDoorMaaa
import Derived.Test.YtgelggdgbmldiaaDoorMaac
import Derived.Test.YtgelggdgbmldiaaDoorMaab
namespace Go.Proofs.YtgelggdgbmldiaaDoor
open Go.RowKit Go.Shelf
set_option linter.unusedVariables false
set_option linter.unusedSimpArgs false

/-- A token that is not the end. -/
def TokIn (m : Nat) (t : Tok) : Prop := t.k ≠ 0 ∧ (t.k = 1 → t.x ≠ [] ∧ (∀ c ∈ t.x, dig c = true) ∧ numV t.x ≤ 9223372036854775807) ∧ t.x.length ≤ m ∧ t.p ≤ m
def TokL (m : Nat) (T : List Tok) : Prop := ∃ I e, T = I ++ [e] ∧ e.k = 0 ∧ e.x = [] ∧ e.p ≤ m ∧ ∀ t ∈ I, TokIn m t

theorem first_tok (l : List UInt8) (h : (firstL l).2.2 = 0) (hl : l ≠ []) : (firstL l).1 ≠ 0 ∧ ((firstL l).1 = 1 → saidL (firstL l).1 (l.take (firstL l).2.1) ≠ [] ∧ (∀ c ∈ saidL (firstL l).1 (l.take (firstL l).2.1), dig c = true) ∧ numV (saidL (firstL l).1 (l.take (firstL l).2.1)) ≤ 9223372036854775807) := by
  obtain ⟨c, r, rfl⟩ := List.exists_cons_of_ne_nil hl
  rw [firstL_cons] at h ⊢
  by_cases h1 : dig c = true
  · rw [if_pos h1] at h ⊢
    have hr : runL dig (c :: r) = runL dig r + 1 := by show (if dig c then _ else 0) = _; rw [if_pos h1]
    unfold numberL at h ⊢
    split at h
    · rename_i hc
      rw [if_pos hc]
      refine ⟨by simp, fun _ => ?_⟩
      show saidL 1 _ ≠ [] ∧ _
      have e : saidL 1 ((c :: r).take (runL dig (c :: r))) = (c :: r).take (runL dig (c :: r)) := if_neg (by decide)
      rw [show (((1 : Nat), runL dig (c :: r), (0 : Nat)) : Nat × Nat × Nat).2.1 = runL dig (c :: r) from rfl, show (((1 : Nat), runL dig (c :: r), (0 : Nat)) : Nat × Nat × Nat).1 = 1 from rfl, e]
      refine ⟨?_, runL_all dig (c :: r), hc.1⟩
      rw [hr]
      simp
    · cases h
  · rw [if_neg h1] at h ⊢
    by_cases h2 : ltr c = true
    · rw [if_pos h2] at h ⊢
      unfold nameL at h ⊢
      split
      · exact ⟨by simp, fun h => by simp at h⟩
      · rename_i hw
        rw [if_neg hw] at h
        split
        · rename_i h8
          rw [if_pos h8] at h
          cases h
        · exact ⟨by simp, fun h => by simp at h⟩
    · rw [if_neg h2] at h ⊢
      by_cases h3 : c = 34
      · rw [if_pos h3] at h ⊢
        unfold textL at h ⊢
        split
        · rename_i hw
          rw [if_pos hw] at h
          split
          · rename_i h8
            rw [if_pos h8] at h
            cases h
          · exact ⟨by simp, fun h => by simp at h⟩
        · rename_i hw
          rw [if_neg hw] at h
          cases h
      · rw [if_neg h3] at h ⊢
        unfold signL at h ⊢
        split
        · exact ⟨by simp, fun h => by simp at h⟩
        · rename_i hw
          rw [if_neg hw] at h
          split
          · exact ⟨by simp, fun h => by simp at h⟩
          · rename_i h8
            rw [if_neg h8] at h
            cases h

theorem said_len (k : Nat) (l : List UInt8) : (saidL k l).length ≤ l.length := by
  unfold saidL
  split
  · rw [List.length_drop, List.length_take]; omega
  · exact Nat.le_refl _

theorem lex_tokL (m : Nat) (l : List UInt8) (p : Nat) : p + l.length ≤ m → (lexL l p).2 = none → TokL m (lexL l p).1 := by
  refine lexL_ind (P := fun l p => p + l.length ≤ m → (lexL l p).2 = none → TokL m (lexL l p).1) ?_ ?_ ?_ ?_ ?_ ?_ l p
  · intro p hm _
    exact ⟨[], ⟨0, [], p⟩, rfl, rfl, rfl, by simpa using hm, fun t ht => by cases ht⟩
  · intro c r p h ih hm he
    rw [lexL_blank h] at he ⊢
    exact ih (by rw [List.length_cons] at hm; omega) he
  · intro c r p h h1 h2 hm he
    rw [lexL_rem_end h h1 h2]
    exact ⟨[], ⟨0, [], p + (c :: r).length⟩, rfl, rfl, rfl, hm, fun t ht => by cases ht⟩
  · intro c r p h h1 h2 ih hm he
    rw [lexL_rem h h1 h2] at he ⊢
    refine ih ?_ he
    have := runL_le (fun d => !decide (d = 10)) (c :: r)
    rw [List.length_drop]
    omega
  · intro c r p h h1 h2 hm he
    rw [lexL_bad h h1 h2] at he
    cases he
  · intro c r p h h1 h2 ih hm he
    have hs := first_size (c :: r) (by simp) h2
    have hf := first_tok (c :: r) h2 (by simp)
    rw [lexL_tok h h1 h2] at he ⊢
    obtain ⟨I, e, hT, h3, h4, h5, h6⟩ := ih (by rw [List.length_drop]; omega) he
    refine ⟨⟨(firstL (c :: r)).1, saidL (firstL (c :: r)).1 ((c :: r).take (firstL (c :: r)).2.1), p⟩ :: I, e, by rw [hT]; rfl, h3, h4, h5, fun t ht => ?_⟩
    rcases List.mem_cons.1 ht with rfl | ht
    · refine ⟨hf.1, hf.2, ?_, by show p ≤ m; omega⟩
      have h7 := said_len (firstL (c :: r)).1 ((c :: r).take (firstL (c :: r)).2.1)
      rw [List.length_take] at h7
      show (saidL _ _).length ≤ m
      omega
    · exact h6 t ht

theorem tokOK_of {m : Nat} {T : List Tok} (h : TokL m T) (hm : m ≤ 1000) (hl : T.length ≤ 1000) : TokOK T := by
  obtain ⟨I, e, rfl, h1, h2, h3, h4⟩ := h
  have hL : (I ++ [e]).length - 1 = I.length := by simp
  have hlast : (I ++ [e]).getD I.length default = e := by simp [List.getD]
  have hin : ∀ i, i < I.length → TokIn m ((I ++ [e]).getD i default) := fun i hi => by
    have : (I ++ [e]).getD i default = I[i] := by rw [List.getD, List.getElem?_append_left hi, List.getElem?_eq_getElem hi]; rfl
    rw [this]
    exact h4 _ (List.getElem_mem _)
  have all : ∀ i, i < (I ++ [e]).length → i < I.length ∨ i = I.length := fun i hi => by rw [List.length_append, List.length_singleton] at hi; omega
  refine ⟨by simp, hl, by rw [hL, hlast]; exact h1, fun i hi => (hin i (by rw [hL] at hi; exact hi)).1, fun i hi hk => ?_, fun i hi => ?_, fun i hi => ?_⟩
  · rcases all i hi with h5 | rfl
    · exact (hin i h5).2.1 hk
    · rw [hlast, h1] at hk; cases hk
  · rcases all i hi with h5 | rfl
    · exact Nat.le_trans (hin i h5).2.2.1 hm
    · rw [hlast, h2]; exact Nat.zero_le _
  · rcases all i hi with h5 | rfl
    · exact Nat.le_trans (hin i h5).2.2.2 hm
    · rw [hlast]; exact Nat.le_trans h3 hm

theorem tokOK_lex (l : List UInt8) (hl : l.length ≤ 600) (h : (lexL l 0).2 = none) : TokOK (lexL l 0).1 :=
  tokOK_of (lex_tokL 600 l 0 (by omega) h) (by omega) (by have := tokens_le l 0; omega)

end Go.Proofs.YtgelggdgbmldiaaDoor

namespace Go.Proofs.YtgelggdgbmldiaaDoor
set_option linter.unusedVariables false
set_option linter.unusedSimpArgs false

section
variable {src : List UInt8} {T : List Tok}
/-- What ends, with its node. -/
theorem ended_runs (hT : EndT T) {s : PS} (h : Okk T s ∧ s.nd.length ≤ 99000) (n : Nd) (l : List Int) : Runs (endedM T n l) s (fun _ s' => St T s s' 1 1 0) := by
  obtain ⟨o, r⟩ := h
  unfold endedM
  refine Runs.mod ?_
  have hw : (wantS T [59] s).nd.length = s.nd.length := by rw [want_nd]
  obtain ⟨o1, m1, n1, d1⟩ := want_St hT o [59]
  generalize wantS T [59] s = s1 at *
  refine (node_runs (.inr ⟨o1, by omega⟩) _ _).mono ?_
  rintro _ s3 ⟨o3, m3, n3, d3⟩
  exact ⟨o3, by omega, by omega, by omega⟩

def ExR (T : List Tok) (ex : PM Int) (M : Nat) : Prop := ∀ s1, Rm T s1 → mu T s1 ≤ M → Runs ex s1 (fun _ s' => St T s1 s' 1 1 0)

theorem comma_runs (hT : EndT T) {ex : PM Int} {M : Nat} (hx : ExR T ex M) :
    ∀ n (l : List Int) s, Okk T s → 0 ≤ s.dp → s.dp + mu T s ≤ 900000 → s.nd.length + 10 * mu T s ≤ 90001 → mu T s ≤ M → mu T s + 1 ≤ n → Runs (commaR T ex n l) s (fun _ s' => St T s s' 0 0 0) := by
  intro n
  induction n with
  | zero => intro x s _ _ _ _ _ h; exact absurd h (by omega)
  | succ n ih =>
    intro l s o r1 r2 r3 hM hn
    unfold commaR
    refine Runs.ask ?_
    try dsimp only
    by_cases hb : isS T [[44]] s = true
    · rw [if_pos hb]
      refine Runs.mod ?_
      obtain ⟨hn, hn1, o1, m1, n1, d1⟩ := next_St hT o (isS_k hb)
      try dsimp only
      generalize nextS T s = s1 at *
      refine Runs.bind (hx s1 ⟨o1, by omega, by omega, by omega⟩ (by omega)) ?_
      rintro y s2 ⟨o2, m2, n2, d2⟩
      refine (ih _ s2 o2 (by omega) (by omega) (by omega) (by omega) (by omega)).mono ?_
      rintro _ s4 ⟨o4, m4, n4, d4⟩
      exact ⟨o4, by omega, by omega, by omega⟩
    · rw [if_neg hb]
      exact Runs.pure ⟨o, by omega, by omega, by omega⟩

theorem args_runs (hT : EndT T) {ex : PM Int} {M N : Nat} (hx : ExR T ex M) {s : PS} (hs : Rm T s) (hM : mu T s ≤ M) (hN : mu T s + 1 ≤ N) :
    Runs (argsM T N ex) s (fun _ s' => St T s s' 0 1 0) := by
  unfold argsM
  refine Runs.ask ?_
  try dsimp only
  by_cases hb : isS T [[41]] s = true
  · rw [if_pos hb]
    exact Runs.pure ⟨hs.1, by omega, by omega, by omega⟩
  · rw [if_neg hb]
    refine Runs.bind (hx s hs hM) ?_
    obtain ⟨o, r1, r2, r3⟩ := hs
    rintro y s2 ⟨o2, m2, n2, d2⟩
    refine (comma_runs hT hx N _ s2 o2 (by omega) (by omega) (by omega) (by omega) (by omega)).mono ?_
    rintro _ s4 ⟨o4, m4, n4, d4⟩
    exact ⟨o4, by omega, by omega, by omega⟩

theorem call_runs (hT : EndT T) {ex : PM Int} {M N : Nat} (hx : ExR T ex M) {s : PS} (hs : Rm T s) (hc : callsS T s = true) (hM : mu T s ≤ M) (hN : mu T s + 1 ≤ N) :
    Runs (callM src T N ex) s (fun _ s' => St T s s' 1 2 0) := by
  have hmu := (next_St hT hs.1 (callsS_k hc)).1
  obtain ⟨o, r1, r2, r3⟩ := hs
  unfold callM
  refine Runs.ask ?_
  refine Runs.ask ?_
  refine Runs.mod ?_
  obtain ⟨o1, m1, n1, d1⟩ := name_St hT o
  generalize nameS T s = s1 at *
  refine Runs.mod ?_
  obtain ⟨o2, m2, n2, d2⟩ := want_St hT o1 [40]
  generalize wantS T [40] s1 = s2 at *
  try dsimp only
  refine Runs.bind (args_runs hT hx ⟨o2, by omega, by omega, by omega⟩ (by omega) (by omega)) ?_
  rintro l s3 ⟨o3, m3, n3, d3⟩
  refine Runs.mod ?_
  obtain ⟨o4, m4, n4, d4⟩ := want_St hT o3 [41]
  generalize wantS T [41] s3 = s4 at *
  refine (node_runs (.inr ⟨o4, by omega⟩) _ _).mono ?_
  rintro _ s5 ⟨o5, m5, n5, d5⟩
  exact ⟨o5, by omega, by omega, by omega⟩

theorem right_runs (hT : EndT T) {ex : PM Int} {M N : Nat} (hx : ExR T ex M) {s : PS} (hs : Rm T s) (hM : mu T s ≤ M) (hN : mu T s + 1 ≤ N) :
    Runs (rightM src T N ex) s (fun _ s' => St T s s' 1 2 0) := by
  unfold rightM
  refine Runs.ask ?_
  refine Runs.ask ?_
  try dsimp only
  by_cases hb : isS T [[105, 110, 112, 117, 116]] s = true
  · rw [if_pos hb]
    refine (next_node hT hs (isS_k hb) _ _).mono ?_
    rintro _ s5 ⟨o5, m5, n5, d5⟩
    exact ⟨o5, by omega, by omega, by omega⟩
  rw [if_neg hb]
  clear hb
  refine Runs.ask ?_
  try dsimp only
  by_cases hb : isS T [[110, 101, 119]] s = true
  · rw [if_pos hb]
    obtain ⟨o, r1, r2, r3⟩ := hs
    refine Runs.mod ?_
    obtain ⟨hn, hn1, o1, m1, n1, d1⟩ := next_St hT o (isS_k hb)
    generalize nextS T s = s1 at *
    refine Runs.mod ?_
    obtain ⟨o2, m2, n2, d2⟩ := want_St hT o1 [40]
    generalize wantS T [40] s1 = s2 at *
    try dsimp only
    refine Runs.bind (hx s2 ⟨o2, by omega, by omega, by omega⟩ (by omega)) ?_
    rintro y s3 ⟨o3, m3, n3, d3⟩
    refine Runs.mod ?_
    obtain ⟨o4, m4, n4, d4⟩ := want_St hT o3 [41]
    generalize wantS T [41] s3 = s4 at *
    refine (node_runs (.inr ⟨o4, by omega⟩) _ _).mono ?_
    rintro _ s5 ⟨o5, m5, n5, d5⟩
    exact ⟨o5, by omega, by omega, by omega⟩
  rw [if_neg hb]
  clear hb
  refine Runs.ask ?_
  try dsimp only
  by_cases hb : callsS T s = true
  · rw [if_pos hb]
    exact call_runs hT hx hs hb hM hN
  rw [if_neg hb]
  refine (hx s hs hM).mono ?_
  rintro _ s5 ⟨o5, m5, n5, d5⟩
  exact ⟨o5, by omega, by omega, by omega⟩

theorem change_runs (hT : EndT T) {ex : PM Int} {M N : Nat} (ln : Int) (hx : ExR T ex M) {s : PS} (hs : Rm T s) (h1 : 1 ≤ mu T s) (hM : mu T s ≤ M) (hN : mu T s + 1 ≤ N) :
    Runs (changeM src T N ex ln) s (fun _ s' => St T s s' 1 4 0) := by
  obtain ⟨o, r1, r2, r3⟩ := hs
  unfold changeM
  refine Runs.ask ?_
  refine Runs.mod ?_
  obtain ⟨o1, m1, n1, d1⟩ := name_St hT o
  generalize nameS T s = s1 at *
  refine Runs.ask ?_
  try dsimp only
  by_cases hb : isS T [[91]] s1 = true
  · rw [if_pos hb]
    have hn := (next_St hT o1 (isS_k hb)).1
    refine Runs.bind (open_runs hT o1 (by omega) [91]) ?_
    rintro _ s2 ⟨⟨o2, m2, n2, d2⟩, e2⟩
    refine Runs.bind (hx s2 ⟨o2, by omega, by omega, by omega⟩ (by omega)) ?_
    rintro y s3 ⟨o3, m3, n3, d3⟩
    refine Runs.bind (shut_runs hT o3 (by omega) [93]) ?_
    rintro _ s4 ⟨o4, m4, n4, d4⟩
    refine Runs.mod ?_
    obtain ⟨o5, m5, n5, d5⟩ := want_St hT o4 [61]
    generalize wantS T [61] s4 = s5 at *
    try dsimp only
    refine Runs.bind (hx s5 ⟨o5, by omega, by omega, by omega⟩ (by omega)) ?_
    rintro z s6 ⟨o6, m6, n6, d6⟩
    refine (ended_runs hT ⟨o6, by omega⟩ _ _).mono ?_
    rintro _ s7 ⟨o7, m7, n7, d7⟩
    exact ⟨o7, by omega, by omega, by omega⟩
  · rw [if_neg hb]
    refine Runs.mod ?_
    obtain ⟨o2, m2, n2, d2⟩ := want_St hT o1 [61]
    generalize wantS T [61] s1 = s2 at *
    try dsimp only
    refine Runs.bind (right_runs hT hx ⟨o2, by omega, by omega, by omega⟩ (by omega) (by omega)) ?_
    rintro y s3 ⟨o3, m3, n3, d3⟩
    refine (ended_runs hT ⟨o3, by omega⟩ _ _).mono ?_
    rintro _ s7 ⟨o7, m7, n7, d7⟩
    exact ⟨o7, by omega, by omega, by omega⟩

def BlR (T : List Tok) (bl : PM Int) (M : Nat) : Prop := ∀ s1, Rm T s1 → mu T s1 + 1 ≤ M → Runs bl s1 (fun _ s' => St T s1 s' 1 1 0)

theorem choice_runs (hT : EndT T) {ex bl : PM Int} {M : Nat} (ln : Int) (hx : ExR T ex M) (hbl : BlR T bl M) {s : PS} (hs : Rm T s) (hk : (tokA T s).k ≠ 0) (hM : mu T s ≤ M) :
    Runs (choiceM T ex bl ln) s (fun _ s' => St T s s' 1 4 0) := by
  obtain ⟨o, r1, r2, r3⟩ := hs
  unfold choiceM
  refine Runs.mod ?_
  obtain ⟨hn, hn1, o1, m1, n1, d1⟩ := next_St hT o hk
  generalize nextS T s = s1 at *
  try dsimp only
  refine Runs.bind (hx s1 ⟨o1, by omega, by omega, by omega⟩ (by omega)) ?_
  rintro x s2 ⟨o2, m2, n2, d2⟩
  refine Runs.bind (hbl s2 ⟨o2, by omega, by omega, by omega⟩ (by omega)) ?_
  rintro y s3 ⟨o3, m3, n3, d3⟩
  refine Runs.ask ?_
  try dsimp only
  by_cases hb : isS T [[101, 108, 115, 101]] s3 = true
  · rw [if_pos hb]
    refine Runs.mod ?_
    obtain ⟨hn', hn1', o4, m4, n4, d4⟩ := next_St hT o3 (isS_k hb)
    generalize nextS T s3 = s4 at *
    try dsimp only
    refine Runs.bind (hbl s4 ⟨o4, by omega, by omega, by omega⟩ (by omega)) ?_
    rintro z s5 ⟨o5, m5, n5, d5⟩
    refine (node_runs (.inr ⟨o5, by omega⟩) _ _).mono ?_
    rintro _ s7 ⟨o7, m7, n7, d7⟩
    exact ⟨o7, by omega, by omega, by omega⟩
  · rw [if_neg hb]
    refine (node_runs (.inr ⟨o3, by omega⟩) _ _).mono ?_
    rintro _ s7 ⟨o7, m7, n7, d7⟩
    exact ⟨o7, by omega, by omega, by omega⟩

theorem statement_runs (hT : EndT T) {ex bl : PM Int} {M N : Nat} (hx : ExR T ex M) (hbl : BlR T bl M) {s : PS} (hs : Rm T s) (h1 : 1 ≤ mu T s) (hM : mu T s ≤ M) (hN : mu T s + 1 ≤ N) :
    Runs (statementM src T N ex bl) s (fun _ s' => St T s s' 1 4 0) := by
  unfold statementM
  refine Runs.ask ?_
  refine Runs.ask ?_
  try dsimp only
  by_cases hb : isS T [[105, 102]] s = true
  · rw [if_pos hb]
    exact choice_runs hT _ hx hbl hs (isS_k hb) hM
  rw [if_neg hb]
  clear hb
  refine Runs.ask ?_
  try dsimp only
  by_cases hb : isS T [[119, 104, 105, 108, 101]] s = true
  · rw [if_pos hb]
    obtain ⟨o, r1, r2, r3⟩ := hs
    refine Runs.mod ?_
    obtain ⟨hn, hn1, o1, m1, n1, d1⟩ := next_St hT o (isS_k hb)
    generalize nextS T s = s1 at *
    try dsimp only
    refine Runs.bind (hx s1 ⟨o1, by omega, by omega, by omega⟩ (by omega)) ?_
    rintro x s2 ⟨o2, m2, n2, d2⟩
    refine Runs.bind (hbl s2 ⟨o2, by omega, by omega, by omega⟩ (by omega)) ?_
    rintro y s3 ⟨o3, m3, n3, d3⟩
    refine (node_runs (.inr ⟨o3, by omega⟩) _ _).mono ?_
    rintro _ s7 ⟨o7, m7, n7, d7⟩
    exact ⟨o7, by omega, by omega, by omega⟩
  rw [if_neg hb]
  clear hb
  refine Runs.ask ?_
  try dsimp only
  by_cases hb : callsS T s = true
  · rw [if_pos hb]
    refine Runs.bind (call_runs hT hx hs hb hM hN) ?_
    obtain ⟨o, r1, r2, r3⟩ := hs
    rintro x s2 ⟨o2, m2, n2, d2⟩
    refine (ended_runs hT ⟨o2, by omega⟩ _ _).mono ?_
    rintro _ s7 ⟨o7, m7, n7, d7⟩
    exact ⟨o7, by omega, by omega, by omega⟩
  rw [if_neg hb]
  clear hb
  refine Runs.ask ?_
  try dsimp only
  by_cases hb : isS T [[112, 114, 105, 110, 116]] s = true
  · rw [if_pos hb]
    obtain ⟨o, r1, r2, r3⟩ := hs
    refine Runs.mod ?_
    obtain ⟨hn, hn1, o1, m1, n1, d1⟩ := next_St hT o (isS_k hb)
    generalize nextS T s = s1 at *
    try dsimp only
    refine Runs.bind (hx s1 ⟨o1, by omega, by omega, by omega⟩ (by omega)) ?_
    rintro x s2 ⟨o2, m2, n2, d2⟩
    refine (ended_runs hT ⟨o2, by omega⟩ _ _).mono ?_
    rintro _ s7 ⟨o7, m7, n7, d7⟩
    exact ⟨o7, by omega, by omega, by omega⟩
  rw [if_neg hb]
  clear hb
  refine Runs.ask ?_
  try dsimp only
  by_cases hb : isS T [[114, 101, 116, 117, 114, 110]] s = true
  · rw [if_pos hb]
    obtain ⟨o, r1, r2, r3⟩ := hs
    refine Runs.mod ?_
    obtain ⟨hn, hn1, o1, m1, n1, d1⟩ := next_St hT o (isS_k hb)
    generalize nextS T s = s1 at *
    refine Runs.ask ?_
    try dsimp only
    by_cases hb : isS T [[59]] s1 = true
    · rw [if_pos hb]
      refine (ended_runs hT ⟨o1, by omega⟩ _ _).mono ?_
      rintro _ s7 ⟨o7, m7, n7, d7⟩
      exact ⟨o7, by omega, by omega, by omega⟩
    · rw [if_neg hb]
      refine Runs.bind (hx s1 ⟨o1, by omega, by omega, by omega⟩ (by omega)) ?_
      rintro x s2 ⟨o2, m2, n2, d2⟩
      refine (ended_runs hT ⟨o2, by omega⟩ _ _).mono ?_
      rintro _ s7 ⟨o7, m7, n7, d7⟩
      exact ⟨o7, by omega, by omega, by omega⟩
  rw [if_neg hb]
  clear hb
  refine Runs.ask ?_
  try dsimp only
  by_cases hb : isS T [[108, 101, 116]] s = true
  · rw [if_pos hb]
    obtain ⟨o, r1, r2, r3⟩ := hs
    refine Runs.mod ?_
    obtain ⟨hn, hn1, o1, m1, n1, d1⟩ := next_St hT o (isS_k hb)
    generalize nextS T s = s1 at *
    refine Runs.ask ?_
    refine Runs.mod ?_
    obtain ⟨o2, m2, n2, d2⟩ := name_St hT o1
    generalize nameS T s1 = s2 at *
    refine Runs.mod ?_
    obtain ⟨o3, m3, n3, d3⟩ := want_St hT o2 [61]
    generalize wantS T [61] s2 = s3 at *
    try dsimp only
    refine Runs.bind (right_runs hT hx ⟨o3, by omega, by omega, by omega⟩ (by omega) (by omega)) ?_
    rintro y s4 ⟨o4, m4, n4, d4⟩
    refine (ended_runs hT ⟨o4, by omega⟩ _ _).mono ?_
    rintro _ s7 ⟨o7, m7, n7, d7⟩
    exact ⟨o7, by omega, by omega, by omega⟩
  rw [if_neg hb]
  exact change_runs hT _ hx hs h1 hM hN

def SmR (T : List Tok) (st : PM Int) (M : Nat) : Prop := ∀ s1, Rm T s1 → 1 ≤ mu T s1 → mu T s1 ≤ M → Runs st s1 (fun _ s' => St T s1 s' 1 4 0)

theorem stms_runs {st : PM Int} {M : Nat} (hst : SmR T st M) :
    ∀ n (l : List Int) s, Okk T s → (1 ≤ mu T s → Rm T s) → mu T s ≤ M → mu T s + 1 ≤ n → Runs (stmsR T st n l) s (fun _ s' => St T s s' 0 0 0) := by
  intro n
  induction n with
  | zero => intro x s _ _ _ h; exact absurd h (by omega)
  | succ n ih =>
    intro l s o hr hM hn
    unfold stmsR
    refine Runs.ask ?_
    try dsimp only
    by_cases hb : (decide (s.er = 0) && !(isS T [[125]] s)) = true
    · rw [if_pos hb]
      have he : s.er = 0 := by simp at hb; exact hb.1
      have hm := mu_pos o he
      refine Runs.bind (hst s (hr hm) hm hM) ?_
      obtain ⟨_, r1, r2, r3⟩ := hr hm
      rintro y s2 ⟨o2, m2, n2, d2⟩
      refine (ih _ s2 o2 (fun _ => ⟨o2, by omega, by omega, by omega⟩) (by omega) (by omega)).mono ?_
      rintro _ s4 ⟨o4, m4, n4, d4⟩
      exact ⟨o4, by omega, by omega, by omega⟩
    · rw [if_neg hb]
      exact Runs.pure ⟨o, by omega, by omega, by omega⟩

theorem block_runs (hT : EndT T) {st : PM Int} {M N : Nat} (hst : SmR T st M) {s : PS} (hs : Rm T s) (hM : mu T s ≤ M + 1) (hN : mu T s + 1 ≤ N) :
    Runs (blockM src T N st) s (fun _ s' => St T s s' 1 1 0) := by
  obtain ⟨o, r1, r2, r3⟩ := hs
  unfold blockM
  refine Runs.ask ?_
  refine Runs.bind (open_runs hT o (by omega) [123]) ?_
  rintro _ s2 ⟨⟨o2, m2, n2, d2⟩, e2⟩
  refine Runs.bind (stms_runs hst N [] s2 o2 (fun _ => ⟨o2, by omega, by omega, by omega⟩) (by omega) (by omega)) ?_
  rintro l s3 ⟨o3, m3, n3, d3⟩
  refine Runs.bind (shut_runs hT o3 (by omega) [125]) ?_
  rintro _ s4 ⟨o4, m4, n4, d4⟩
  refine (node_runs (.inr ⟨o4, by omega⟩) _ _).mono ?_
  rintro _ s7 ⟨o7, m7, n7, d7⟩
  exact ⟨o7, by omega, by omega, by omega⟩

theorem st_runs (hT : EndT T) {N : Nat} : ∀ n M, M ≤ n → 6 * M + 7 ≤ N → SmR T (stM src T N n) M := by
  intro n
  induction n with
  | zero => intro M hM hN s h1 h2 h3; exact absurd h2 (by omega)
  | succ n ih =>
    intro M hM hN s hs h1 h2
    unfold stM
    refine statement_runs (M := M) hT (fun s1 h3 h4 => ex_runs hT N 0 s1 (by omega) h3 (by omega)) (fun s1 h3 h4 => ?_) hs h1 h2 (by omega)
    exact block_runs hT (ih (M - 1) (by omega) (by omega)) h3 (by omega) (by omega)

theorem kind_runs (hT : EndT T) {s : PS} (o : Okk T s) : Runs (kindM T) s (fun _ s' => St T s s' 1 0 0) := by
  unfold kindM
  refine Runs.ask ?_
  try dsimp only
  by_cases hb : isS T [[105, 110, 116], [98, 111, 111, 108], [116, 101, 120, 116], [108, 105, 115, 116]] s = true
  · rw [if_pos hb]
    refine Runs.ask ?_
    refine Runs.mod ?_
    exact Runs.pure (next_St hT o (isS_k hb)).2.2
  · rw [if_neg hb]
    refine Runs.mod ?_
    exact Runs.pure (fail_St hT o (by decide))
theorem param_runs (hT : EndT T) {s : PS} (o : Okk T s) : Runs (paramM T) s (fun _ s' => St T s s' 1 0 0) := by
  unfold paramM
  refine Runs.ask ?_
  refine Runs.mod ?_
  have h1 := name_St hT o
  refine Runs.bind (kind_runs hT h1.1) ?_
  intro t s2 h2
  refine Runs.pure ?_
  obtain ⟨o3, m3, n3, d3⟩ := h1.trans h2
  obtain ⟨o1, m1, n1, d1⟩ := h1
  obtain ⟨o2, m2, n2, d2⟩ := h2
  exact ⟨o3, by omega, by omega, by omega⟩
theorem paramsR_runs (hT : EndT T) : ∀ n (l : List (List UInt8 × Int)) s, Okk T s → mu T s + 1 ≤ n → Runs (paramsR T n l) s (fun _ s' => St T s s' 0 0 0) := by
  intro n
  induction n with
  | zero => intro x s _ h; exact absurd h (by omega)
  | succ n ih =>
    intro l s o hn
    unfold paramsR
    refine Runs.ask ?_
    try dsimp only
    by_cases hb : isS T [[44]] s = true
    · rw [if_pos hb]
      refine Runs.mod ?_
      obtain ⟨hn, hn1, o1, m1, n1, d1⟩ := next_St hT o (isS_k hb)
      generalize nextS T s = s1 at *
      try dsimp only
      refine Runs.bind (param_runs hT o1) ?_
      rintro y s2 ⟨o2, m2, n2, d2⟩
      refine (ih _ s2 o2 (by omega)).mono ?_
      rintro _ s4 ⟨o4, m4, n4, d4⟩
      exact ⟨o4, by omega, by omega, by omega⟩
    · rw [if_neg hb]
      exact Runs.pure ⟨o, by omega, by omega, by omega⟩
theorem params_runs (hT : EndT T) {N : Nat} {s : PS} (o : Okk T s) (hN : mu T s + 1 ≤ N) : Runs (paramsM T N) s (fun _ s' => St T s s' 0 0 0) := by
  unfold paramsM
  refine Runs.ask ?_
  try dsimp only
  by_cases hb : isS T [[41]] s = true
  · rw [if_pos hb]
    exact Runs.pure ⟨o, by omega, by omega, by omega⟩
  · rw [if_neg hb]
    refine Runs.bind (param_runs hT o) ?_
    rintro y s2 ⟨o2, m2, n2, d2⟩
    refine (paramsR_runs hT N _ s2 o2 (by omega)).mono ?_
    rintro _ s4 ⟨o4, m4, n4, d4⟩
    exact ⟨o4, by omega, by omega, by omega⟩
theorem ret_runs (hT : EndT T) {s : PS} (o : Okk T s) : Runs (retM T) s (fun _ s' => St T s s' 0 0 0) := by
  unfold retM
  refine Runs.ask ?_
  try dsimp only
  by_cases hb : isS T [[123]] s = true
  · rw [if_pos hb]
    exact Runs.pure ⟨o, by omega, by omega, by omega⟩
  · rw [if_neg hb]
    refine (kind_runs hT o).mono ?_
    rintro y s2 ⟨o2, m2, n2, d2⟩
    exact ⟨o2, by omega, by omega, by omega⟩
theorem function_runs (hT : EndT T) {N : Nat} {s : PS} (hs : Rm T s) (h1 : 1 ≤ mu T s) (hN : 6 * mu T s + 7 ≤ N) {M : Nat} (hM : 6 * M + 7 ≤ N) (hMs : mu T s ≤ M + 1) (hst : SmR T (stM src T N N) M) :
    Runs (functionM src T N) s (fun _ s' => St T s s' 1 1 0) := by
  obtain ⟨o, r1, r2, r3⟩ := hs
  unfold functionM
  refine Runs.ask ?_
  refine Runs.mod ?_
  obtain ⟨o1, m1, n1, d1⟩ := want_St hT o [102, 110]
  generalize wantS T [102, 110] s = s1 at *
  refine Runs.ask ?_
  refine Runs.mod ?_
  obtain ⟨o2, m2, n2, d2⟩ := name_St hT o1
  generalize nameS T s1 = s2 at *
  refine Runs.mod ?_
  obtain ⟨o3, m3, n3, d3⟩ := want_St hT o2 [40]
  generalize wantS T [40] s2 = s3 at *
  try dsimp only
  refine Runs.bind (params_runs hT o3 (by omega)) ?_
  rintro ps s4 ⟨o4, m4, n4, d4⟩
  refine Runs.mod ?_
  obtain ⟨o5, m5, n5, d5⟩ := want_St hT o4 [41]
  generalize wantS T [41] s4 = s5 at *
  try dsimp only
  refine Runs.bind (ret_runs hT o5) ?_
  rintro r s6 ⟨o6, m6, n6, d6⟩
  refine Runs.bind (block_runs hT hst ⟨o6, by omega, by omega, by omega⟩ (by omega) (by omega)) ?_
  rintro y s7 ⟨o7, m7, n7, d7⟩
  exact Runs.pure ⟨o7, by omega, by omega, by omega⟩
theorem fns_runs (hT : EndT T) {N : Nat} : ∀ n (l : List Fnc) s, Rm T s → mu T s + 1 ≤ n → 6 * mu T s + 7 ≤ N → Runs (fnsR src T N n l) s (fun _ s' => St T s s' 0 0 0) := by
  intro n
  induction n with
  | zero => intro x s _ h; exact absurd h (by omega)
  | succ n ih =>
    intro l s hs hn hN
    unfold fnsR
    refine Runs.ask ?_
    try dsimp only
    by_cases hb : (decide (s.er = 0) && !(decide ((tokA T s).k = 0))) = true
    · rw [if_pos hb]
      have he : s.er = 0 := by simp at hb; exact hb.1
      have hm := mu_pos hs.1 he
      refine Runs.bind (function_runs hT hs hm hN (M := mu T s) hN (by omega) (st_runs hT N (mu T s) (by omega) hN)) ?_
      obtain ⟨o, r1, r2, r3⟩ := hs
      rintro y s2 ⟨o2, m2, n2, d2⟩
      refine (ih _ s2 ⟨o2, by omega, by omega, by omega⟩ (by omega) (by omega)).mono ?_
      rintro _ s4 ⟨o4, m4, n4, d4⟩
      exact ⟨o4, by omega, by omega, by omega⟩
    · rw [if_neg hb]
      exact Runs.pure ⟨hs.1, by omega, by omega, by omega⟩

theorem lexL_len (l : List UInt8) (p : Nat) : (lexL l p).1.length ≤ l.length + 1 := by
  refine lexL_ind (P := fun l p => (lexL l p).1.length ≤ l.length + 1) ?_ ?_ ?_ ?_ ?_ ?_ l p
  · intro p
    exact Nat.le_refl 1
  · intro c r p h0 ih
    rw [lexL_blank h0, List.length_cons]
    omega
  · intro c r p h0 h1 h2
    rw [lexL_rem_end h0 h1 h2]
    show 1 ≤ _
    omega
  · intro c r p h0 h1 h2 ih
    rw [lexL_rem h0 h1 h2]
    rw [List.length_drop] at ih
    omega
  · intro c r p h0 h1 h2
    rw [lexL_bad h0 h1 h2]
    exact Nat.zero_le _
  · intro c r p h0 h1 h2 ih
    have h3 := first_size (c :: r) (by simp) h2
    rw [lexL_tok h0 h1 h2]
    show _ + 1 ≤ _
    rw [List.length_drop] at ih
    omega
theorem lexL_endT (l : List UInt8) (hl : l.length ≤ 900) (h : (lexL l 0).2 = none) : EndT (lexL l 0).1 := by
  obtain ⟨init, h1, _⟩ := lexL_good l 0 h
  have h2 := lexL_len l 0
  rw [h1] at h2 ⊢
  refine ⟨?_, by omega, ?_⟩
  · rw [List.length_append]
    show 0 < init.length + 1
    omega
  · rw [List.length_append]
    show ((init ++ [(⟨0, [], 0 + l.length⟩ : Tok)]).getD (init.length + 1 - 1) default).k = 0
    rw [Nat.add_sub_cancel, List.getD_eq_getElem?_getD, List.getElem?_append_right (Nat.le_refl _), Nat.sub_self]
    rfl

/-- The program's parser tells something of each source. -/
theorem allP_some (src : List UInt8) (N : Nat) (hN : 6100 ≤ N) : ∃ res, allP N src = some res := by
  unfold allP
  by_cases hb : 600 < src.length
  · rw [if_pos hb]
    exact ⟨_, rfl⟩
  · rw [if_neg hb]
    cases he : (lexL src 0).2 with
    | some pe => exact ⟨_, rfl⟩
    | none =>
      have hT := lexL_endT src (by omega) he
      have hle : (lexL src 0).1.length ≤ 601 := by have := lexL_len src 0; omega
      have hmu : mu (lexL src 0).1 ⟨0, 0, 0, [], 0⟩ = (lexL src 0).1.length := rfl
      obtain ⟨fs, s', h1, h2⟩ := fns_runs (src := src) hT (N := N) N [] ⟨0, 0, 0, [], 0⟩ ⟨⟨hT.1, fun h => absurd rfl h⟩, by decide, by rw [hmu]; show (0 : Int) + _ ≤ _; omega, by rw [hmu]; show 0 + _ ≤ _; omega⟩ (by rw [hmu]; omega) (by rw [hmu]; omega)
      exact ⟨_, by show Option.map _ (fnsR src (lexL src 0).1 N N [] ⟨0, 0, 0, [], 0⟩) = _; rw [h1]; rfl⟩
end
end Go.Proofs.YtgelggdgbmldiaaDoor

namespace Go.Proofs.YtgelggdgbmldiaaDoor
set_option linter.unusedVariables false
set_option linter.unusedSimpArgs false

/-- A node without its line. -/
def un (n : Nd) : Nd := { n with ln := 0 }
/-- Two rows of tokens that are the same ahead of the first one's end. -/
structure Pre (T T' : List Tok) (E A : Nat) : Prop where
  len : T.length = E + 1
  len' : E < T'.length
  big : T'.length ≤ 1000
  same : ∀ i, i < E → T'.getD i default = T.getD i default
  inner : ∀ i, i < E → (T.getD i default).k ≠ 0
  k0 : (T.getD E default).k = 0
  x0 : (T.getD E default).x = []
  p0 : (T.getD E default).p = A
  k0' : (T'.getD (T'.length - 1) default).k = 0
  x0' : (T'.getD (T'.length - 1) default).x = []
def PreR (E E' : Nat) (s s' : PS) : Prop := s'.er = s.er ∧ s'.pl = s.pl ∧ s'.dp = s.dp ∧ s'.nd.map un = s.nd.map un ∧ ((s.er = 0 ∧ s.i < E ∧ s'.i = s.i) ∨ (s.er ≠ 0 ∧ s.i = E ∧ s'.i = E'))
def PreL (E A : Nat) (s : PS) : Prop := (s.er = 0 ∧ s.i = E) ∨ (s.er ≠ 0 ∧ s.pl = A)

section
variable {src src' : List UInt8} {T T' : List Tok} {E A : Nat}
theorem pre_lost (h : Pre T T' E A) : LostP T (PreL E A) := by
  have hl := h.len
  refine ⟨?_, ?_, ?_, ?_⟩
  · intro s hs
    rcases hs with ⟨h1, h2⟩ | ⟨h1, h2⟩
    · have : nextS T s = s := if_neg (by omega)
      rw [this]
      exact .inl ⟨h1, h2⟩
    · unfold nextS
      split
      · exact .inr ⟨h1, h2⟩
      · exact .inr ⟨h1, h2⟩
  · intro s e hs he
    rcases hs with ⟨h1, h2⟩ | ⟨h1, h2⟩
    · have : failS T e s = { s with pl := (tokA T s).p, er := e, i := T.length - 1 } := if_pos h1
      rw [this]
      refine .inr ⟨by show e ≠ 0; omega, ?_⟩
      show (tokA T s).p = A
      unfold tokA
      rw [h2]
      exact h.p0
    · have : failS T e s = s := if_neg h1
      rw [this]
      exact .inr ⟨h1, h2⟩
  · intro s d hs
    exact hs
  · intro s n hs
    exact hs
theorem pre_tok (h : Pre T T' E A) {s s' : PS} (hs : PreR E (T'.length - 1) s s') : (tokA T' s').k = (tokA T s).k ∧ (tokA T' s').x = (tokA T s).x := by
  obtain ⟨_, _, _, _, ⟨h1, h2, h3⟩ | ⟨h1, h2, h3⟩⟩ := hs
  · unfold tokA
    rw [h3, h.same _ h2]
    exact ⟨rfl, rfl⟩
  · unfold tokA
    rw [h3, h2, h.k0, h.x0, h.k0', h.x0']
    exact ⟨rfl, rfl⟩
theorem pre_prim (h : Pre T T' E A) : Prim src src' T T' (PreR E (T'.length - 1)) (PreL E A) (fun x => x) (fun _ _ => True) where
  lost := pre_lost h
  is_ := fun s s' ts hs => by
    obtain ⟨h1, h2⟩ := pre_tok h hs
    unfold isS
    rw [h1, h2]
  tok := fun s s' hs => pre_tok h hs
  calls := fun s s' hs => by
    have ht := (pre_tok h hs).1
    obtain ⟨_, _, _, _, ⟨h1, h2, h3⟩ | ⟨h1, h2, h3⟩⟩ := hs
    · by_cases hk : (tokA T s).k = 3
      · by_cases hi : s.i + 1 < E
        · left
          unfold callsS
          rw [ht, h3, h.same _ hi]
        · right
          have he : s.i + 1 = E := by omega
          refine ⟨?_, hk, ?_⟩
          · unfold callsS
            rw [he, h.k0]
            simp
          · have hl := h.len
            have : nextS T s = { s with i := s.i + 1 } := if_pos (by omega)
            rw [this]
            exact .inl ⟨h1, he⟩
      · left
        unfold callsS
        rw [ht, decide_eq_false hk, Bool.false_and, Bool.false_and]
    · left
      unfold callsS
      have : (tokA T s).k = 0 := by unfold tokA; rw [h2]; exact h.k0
      rw [ht, this]
      rfl
  line := fun _ _ _ => trivial
  er := fun s s' hs => by rw [hs.1]
  next := fun s s' hs => by
    have hl := h.len
    have hl' := h.len'
    obtain ⟨a1, a2, a3, a4, ⟨h1, h2, h3⟩ | ⟨h1, h2, h3⟩⟩ := hs
    · have e1 : nextS T s = { s with i := s.i + 1 } := if_pos (by omega)
      have e2 : nextS T' s' = { s' with i := s'.i + 1 } := if_pos (by omega)
      rw [e1, e2]
      by_cases hi : s.i + 1 < E
      · exact .inr ⟨a1, a2, a3, a4, .inl ⟨h1, hi, by show s'.i + 1 = s.i + 1; omega⟩⟩
      · exact .inl (.inl ⟨h1, by show s.i + 1 = E; omega⟩)
    · have e1 : nextS T s = s := if_neg (by omega)
      have e2 : nextS T' s' = s' := if_neg (by omega)
      rw [e1, e2]
      exact .inr ⟨a1, a2, a3, a4, .inr ⟨h1, h2, h3⟩⟩
  fail := fun s s' e hs he => by
    have hl := h.len
    obtain ⟨a1, a2, a3, a4, ⟨h1, h2, h3⟩ | ⟨h1, h2, h3⟩⟩ := hs
    · have e1 : failS T e s = { s with pl := (tokA T s).p, er := e, i := T.length - 1 } := if_pos h1
      have e2 : failS T' e s' = { s' with pl := (tokA T' s').p, er := e, i := T'.length - 1 } := if_pos (by rw [a1]; exact h1)
      rw [e1, e2]
      refine .inr ⟨rfl, ?_, a3, a4, .inr ⟨by show e ≠ 0; omega, by show T.length - 1 = E; omega, rfl⟩⟩
      show (tokA T' s').p = (tokA T s).p
      unfold tokA
      rw [h3, h.same _ h2]
    · have e1 : failS T e s = s := if_neg h1
      have e2 : failS T' e s' = s' := if_neg (by rw [a1]; exact h1)
      rw [e1, e2]
      exact .inr ⟨a1, a2, a3, a4, .inr ⟨h1, h2, h3⟩⟩
  dp := fun s s' hs => by
    obtain ⟨a1, a2, a3, a4, a5⟩ := hs
    exact ⟨a3, fun d => ⟨a1, a2, rfl, a4, a5⟩⟩
  node := fun s s' k ln ln' n x l hs _ hb => by
    obtain ⟨a1, a2, a3, a4, a5⟩ := hs
    have hlen : s'.nd.length = s.nd.length := by have := congrArg List.length a4; rwa [List.length_map, List.length_map] at this
    refine .inr ⟨by omega, by rw [hlen], a1, a2, a3, ?_, a5⟩
    show (s'.nd ++ [_]).map un = (s.nd ++ [_]).map un
    rw [List.map_append, List.map_append, a4, List.map_id']
    rfl
theorem pre_zero (h : Pre T T' E A) : ∀ s s', PreR E (T'.length - 1) s s' → ((tokA T' s').k = 0 ↔ (tokA T s).k = 0) := fun s s' hs => by rw [(pre_tok h hs).1]

/-- What errors there are, and where. -/
def ErrL (T : List Tok) (s : PS) : Prop := s.i < T.length ∧ (s.er = 0 ∨ ((s.er = 20 ∨ s.er = 21) ∧ ∃ i, i < T.length ∧ s.pl = (T.getD i default).p))
theorem err_lost (T : List Tok) (hT : 0 < T.length) : LostP T (ErrL T) := by
  refine ⟨?_, ?_, ?_, ?_⟩
  · intro s hs
    obtain ⟨h1, h2⟩ := hs
    unfold nextS
    split
    · exact ⟨by show s.i + 1 < T.length; omega, h2⟩
    · exact ⟨h1, h2⟩
  · intro s e hs he
    obtain ⟨h1, h2⟩ := hs
    unfold failS
    split
    · exact ⟨by show T.length - 1 < T.length; omega, .inr ⟨he, s.i, h1, rfl⟩⟩
    · exact ⟨h1, h2⟩
  · intro s d hs; exact hs
  · intro s n hs; exact hs
end

theorem pre_of (a b : List UInt8) (ha : a.length ≤ 600) (hn : (lexL a 0).2 = none) (hb : (lexL (a ++ 10 :: b) 0).2 = none) (hl : (a ++ 10 :: b).length ≤ 900) : ∃ E, Pre (lexL a 0).1 (lexL (a ++ 10 :: b) 0).1 E a.length := by
  obtain ⟨init, h1, h2⟩ := lexL_both b a 0 hn
  have hB := lexL_endT (a ++ 10 :: b) hl hb
  obtain ⟨I, e, hI, hk, hx, _, hin⟩ := lex_tokL a.length a 0 (by omega) hn
  obtain ⟨I', e', hI', hk', hx', _, _⟩ := lex_tokL (a ++ 10 :: b).length (a ++ 10 :: b) 0 (by omega) hb
  obtain ⟨rfl, rfl⟩ : I = init ∧ e = ⟨0, [], 0 + a.length⟩ := by
    have := hI.symm.trans h1
    have h3 := List.append_inj' this rfl
    exact ⟨h3.1, List.singleton_inj.1 h3.2⟩
  have ne : (lexL b (0 + a.length + 1)).1 ≠ [] := by
    intro h0
    rw [h2, h0, List.append_nil] at hI'
    have h3 := congrArg (fun l : List Tok => l.getLast?) hI'
    simp only [List.getLast?_append, List.getLast?_singleton] at h3
    have h4 : I ≠ [] := by intro h; rw [h] at hI'; simp at hI'
    rw [List.getLast?_eq_some_getLast h4] at h3
    have h5 := hin _ (List.getLast_mem h4)
    simp at h3
    rw [h3] at h5
    exact h5.1 hk'
  refine ⟨I.length, ?_⟩
  have hE' : (lexL (a ++ 10 :: b) 0).1.length - 1 = I'.length := by rw [hI']; simp
  refine ⟨by rw [hI]; simp, ?_, hB.2.1, ?_, ?_, ?_, ?_, ?_, ?_, ?_⟩
  · rw [h2]
    show I.length < (I ++ _).length
    rw [List.length_append]
    have := List.length_pos_iff.mpr ne
    omega
  · intro i hi
    rw [h2, hI]
    show (I ++ _).getD i default = _
    rw [List.getD, List.getD, List.getElem?_append_left hi, List.getElem?_append_left hi]
  · intro i hi
    rw [hI, List.getD, List.getElem?_append_left hi, List.getElem?_eq_getElem hi]
    exact (hin _ (List.getElem_mem hi)).1
  · rw [hI]; simp [List.getD]
  · rw [hI]; simp [List.getD]
  · rw [hI]; simp [List.getD]
  · rw [hE', hI']; simpa [List.getD] using hk'
  · rw [hE', hI']; simpa [List.getD] using hx'

/-- What is refused at a token stays so, whatever stands behind it. -/
theorem refused (a b : List UInt8) (N : Nat) (hN : 6100 ≤ N) (p e : Nat) (h : allP N a = some (.inl (p, e))) (ha : a.length ≤ 600) (hn : (lexL a 0).2 = none) (he : e ≠ 4) :
    (e = 20 ∨ e = 21) ∧ (∃ i, i < (lexL a 0).1.length ∧ p = ((lexL a 0).1.getD i default).p) ∧ (p ≠ a.length → (a ++ 10 :: b).length ≤ 600 → (lexL (a ++ 10 :: b) 0).2 = none → allP N (a ++ 10 :: b) = some (.inl (p, e))) := by
  have hT := lexL_endT a (by omega) hn
  unfold allP at h
  rw [if_neg (by omega), hn] at h
  cases hm : fnsR a (lexL a 0).1 N N [] ⟨0, 0, 0, [], 0⟩ with
  | none => rw [hm] at h; cases h
  | some r =>
    rw [hm] at h
    obtain ⟨fs, s1⟩ := r
    have h : treeP fs s1 = .inl (p, e) := Option.some.inj h
    have h0 : s1.er ≠ 0 := by
      intro h0
      unfold treeP at h
      rw [if_pos h0] at h
      split at h
      · injection h with h
        injection h with h1 h2
        exact he h2.symm
      · cases h
    unfold treeP at h
    rw [if_neg h0] at h
    injection h with h
    injection h with hp he2
    have hE := mono_fns (src := a) (err_lost (lexL a 0).1 hT.1) N N [] ⟨0, 0, 0, [], 0⟩ fs s1 ⟨hT.1, .inl rfl⟩ hm
    obtain ⟨_, hE⟩ := hE
    rcases hE with hE | ⟨h1, i, hi, h2⟩
    · exact absurd hE h0
    · refine ⟨by rw [← he2]; exact h1, ⟨i, hi, by rw [← hp]; exact h2⟩, fun hpa hlen hb => ?_⟩
      obtain ⟨E, hpre⟩ := pre_of a b ha hn hb (by omega)
      have X := pre_prim (src := a) (src' := a ++ 10 :: b) hpre
      have notlost : ¬ PreL E a.length s1 := by
        rintro (⟨h3, _⟩ | ⟨_, h3⟩)
        · exact h0 h3
        · exact hpa (by rw [← hp]; exact h3)
      by_cases hE0 : 0 < E
      · rcases sq_fns X (pre_zero hpre) N N [] [] ⟨0, 0, 0, [], 0⟩ ⟨0, 0, 0, [], 0⟩ ⟨rfl, rfl, rfl, rfl, .inl ⟨rfl, hE0, rfl⟩⟩ trivial fs s1 hm with hl | ⟨fs', s1', h3, h4, _⟩
        · exact absurd hl notlost
        · unfold allP
          rw [if_neg (by omega), hb]
          show (fnsR (a ++ 10 :: b) (lexL (a ++ 10 :: b) 0).1 N N [] ⟨0, 0, 0, [], 0⟩).map (fun p => treeP p.1 p.2) = _
          rw [h3]
          show some (treeP fs' s1') = _
          unfold treeP
          rw [if_neg (by rw [h4.1]; exact h0), h4.1, h4.2.1, hp, he2]
      · have hl := mono_fns (src := a) X.lost N N [] ⟨0, 0, 0, [], 0⟩ fs s1 (.inl ⟨rfl, by show 0 = E; omega⟩) hm
        exact absurd hl notlost
end Go.Proofs.YtgelggdgbmldiaaDoor

namespace Go.Proofs.YtgelggdgbmldiaaDoor
set_option linter.unusedVariables false
set_option linter.unusedSimpArgs false

section
variable {src src' : List UInt8} {T T' : List Tok} {E A : Nat}
/-- Behind an error there is one. -/
theorem er_lost (T : List Tok) : LostP T (fun s => s.er ≠ 0) := by
  refine ⟨?_, ?_, ?_, ?_⟩
  · intro s hs
    unfold nextS
    split
    · exact hs
    · exact hs
  · intro s e hs he
    have : failS T e s = s := if_neg hs
    rw [this]
    exact hs
  · intro s d hs; exact hs
  · intro s n hs; exact hs
theorem want_at_end (h : Pre T T' E A) {s : PS} (he : s.er = 0) (hi : s.i = E) (x : List UInt8) : (wantS T x s).er ≠ 0 := by
  have hk : (tokA T s).k = 0 := by unfold tokA; rw [hi]; exact h.k0
  have hb : isS T [x] s = false := by unfold isS; rw [hk]; rfl
  have : wantS T x s = failS T 20 s := if_neg (by rw [hb]; decide)
  rw [this]
  have : failS T 20 s = { s with pl := (tokA T s).p, er := 20, i := T.length - 1 } := if_pos he
  rw [this]
  show (20 : Nat) ≠ 0
  decide
/-- A block at the end is none. -/
theorem block_lost (h : Pre T T' E A) {N : Nat} {st : PM Int} (hst : Mono (fun s => s.er ≠ 0) st) {s s1 : PS} {r : Int} (hl : PreL E A s) (e : blockM src T N st s = some (r, s1)) : s1.er ≠ 0 := by
  have L := er_lost T
  have rest : Mono (fun s => s.er ≠ 0) (do let l ← stmsR T st N []; shutM T [125]; nodeM ⟨18, lineS src T s, 0, [], []⟩ l : PM Int) := (mono_stms L hst N _).bind fun _ => (mono_shut L _).bind fun _ => Mono.node L _ _
  have e2 : (openM T [123] >>= fun _ => (do let l ← stmsR T st N []; shutM T [125]; nodeM ⟨18, lineS src T s, 0, [], []⟩ l : PM Int)) s = some (r, s1) := e
  rcases hl with ⟨h1, h2⟩ | ⟨h1, _⟩
  · obtain ⟨u, t, e3, e4⟩ := bind_out e2
    refine rest t r s1 ?_ e4
    have e3 : deepS 1 (openS T [123] s) = some (u, t) := e3
    have hk : (tokA T s).k = 0 := by unfold tokA; rw [h2]; exact h.k0
    have hb : isS T [[123]] s = false := by unfold isS; rw [hk]; rfl
    have ho : openS T [123] s = wantS T [123] s := by unfold openS; rw [hb, Bool.false_and, if_neg (by decide)]
    rw [ho] at e3
    have := want_at_end h h1 h2 [123]
    unfold deepS at e3
    split at e3
    · injection e3 with e3
      injection e3 with _ e5
      rw [← e5]
      exact this
    · cases e3
  · exact ((mono_open L [123]).bind fun _ => rest) s r s1 h1 e2
/-- A block that ends without an error is the same one with more behind it, also where it ends at the end. -/
theorem block_both (h : Pre T T' E A) {N : Nat} {st st' : PM Int} (hst : SqF (pre_prim (src := src) (src' := src') h) st st') (hm : Mono (PreL E A) st) {s s' s1 : PS} {r : Int} (hs : PreR E (T'.length - 1) s s') (e : blockM src T N st s = some (r, s1)) (h0 : s1.er = 0) :
    ∃ s1', blockM src' T' N st' s' = some (r, s1') ∧ s1'.i = s1.i ∧ s1'.pl = s1.pl ∧ s1'.er = 0 ∧ s1'.dp = s1.dp ∧ s1'.nd.map un = s1.nd.map un ∧ s1.i ≤ E := by
  have X := pre_prim (src := src) (src' := src') h
  have hlen := h.len
  have hlen' := h.len'
  have e2 : (openM T [123] >>= fun _ => stmsR T st N [] >>= fun l => shutM T [125] >>= fun _ => nodeM ⟨18, lineS src T s, 0, [], []⟩ l) s = some (r, s1) := e
  obtain ⟨u, t, e3, e4⟩ := bind_out e2
  obtain ⟨l, t2, e5, e6⟩ := bind_out e4
  obtain ⟨u2, t3, e7, e8⟩ := bind_out e6
  have L := er_lost T
  -- no error on the way
  have n3 : t3.er = 0 := by
    by_cases h3 : t3.er = 0
    · exact h3
    · exact absurd h0 (Mono.node L _ _ t3 r s1 h3 e8)
  have n2 : t2.er = 0 := by
    by_cases h3 : t2.er = 0
    · exact h3
    · exact absurd n3 (mono_shut L _ t2 u2 t3 h3 e7)
  have hop : SqAt (PreR E (T'.length - 1)) (PreL E A) (fun _ _ => True) (openM T [123]) (openM T' [123]) s s' := by
    have := SqAt.opens (RB := fun (_ _ : Unit) => True) X hs [123] (f := fun _ => pure ()) (f' := fun _ => pure ()) Mono.ret (fun t t' ht => SqAt.ret ht trivial)
    rwa [show (openM T [123] >>= fun _ => (pure () : PM Unit)) = openM T [123] from bind_pure _, show (openM T' [123] >>= fun _ => (pure () : PM Unit)) = openM T' [123] from bind_pure _] at this
  have lostEnd : ∀ v, PreL E A v → v.er = 0 → v.i = E := fun v hv hz => by
    rcases hv with ⟨_, h5⟩ | ⟨h5, _⟩
    · exact h5
    · exact absurd hz h5
  have notlost2 : ¬ PreL E A t2 := fun hl => by
    have hi := lostEnd t2 hl n2
    have hw := want_at_end h n2 hi [125]
    have e7 : deepS (-1) (wantS T [125] t2) = some (u2, t3) := e7
    unfold deepS at e7
    split at e7
    · injection e7 with e7
      injection e7 with _ e9
      rw [← e9] at n3
      exact hw n3
    · cases e7
  rcases hop u t e3 with hl | ⟨_, t', f3, ht, _⟩
  · exact absurd (mono_stms X.lost hm N _ t l t2 hl e5) notlost2
  · rcases sq_stms X hst hm N [] [] t t' ht rfl l t2 e5 with hl | ⟨l', t2', f5, ht2, hll⟩
    · exact absurd hl notlost2
    · have hll : l' = l := by rw [show l' = l.map (fun x => x) from hll, List.map_id']
      subst hll
      obtain ⟨a1, a2, a3, a4, ⟨b1, b2, b3⟩ | ⟨b1, _, _⟩⟩ := ht2
      · -- the closing sign
        have e7 : deepS (-1) (wantS T [125] t2) = some (u2, t3) := e7
        by_cases hb : isS T [[125]] t2 = true
        · have hw : wantS T [125] t2 = nextS T t2 := if_pos hb
          have hn : nextS T t2 = { t2 with i := t2.i + 1 } := if_pos (by omega)
          have hb' : isS T' [[125]] t2' = true := by rw [X.is_ _ _ _ ⟨a1, a2, a3, a4, .inl ⟨b1, b2, b3⟩⟩]; exact hb
          have hw' : wantS T' [125] t2' = nextS T' t2' := if_pos hb'
          have hn' : nextS T' t2' = { t2' with i := t2'.i + 1 } := if_pos (by omega)
          rw [hw, hn] at e7
          unfold deepS at e7
          split at e7
          · rename_i hd
            injection e7 with e7
            injection e7 with _ e9
            subst e9
            unfold nodeM at e8
            split at e8
            · rename_i hdn
              injection e8 with e8
              injection e8 with e10 e11
              subst e10; subst e11
              have hlen2 : t2'.nd.length = t2.nd.length := by have := congrArg List.length a4; rwa [List.length_map, List.length_map] at this
              refine ⟨{ t2' with i := t2'.i + 1, dp := t2'.dp + -1, nd := t2'.nd ++ [⟨18, lineS src' T' s', 0, [], l'⟩] }, ?_, ?_, a2, ?_, ?_, ?_, ?_⟩
              · show (openM T' [123] >>= fun _ => stmsR T' st' N [] >>= fun l => shutM T' [125] >>= fun _ => nodeM ⟨18, lineS src' T' s', 0, [], []⟩ l) s' = _
                refine (bind_in f3).trans ((bind_in f5).trans ?_)
                refine (bind_in (a := ()) (s1 := { t2' with i := t2'.i + 1, dp := t2'.dp + -1 }) ?_).trans ?_
                · show deepS (-1) (wantS T' [125] t2') = _
                  rw [hw', hn']
                  exact if_pos (by rw [show ({ t2' with i := t2'.i + 1 } : PS).dp = t2'.dp from rfl, a3]; exact hd)
                · show (if t2'.nd.length < 100000 then _ else _) = _
                  rw [if_pos (by rw [hlen2]; exact hdn), hlen2]
              · show t2'.i + 1 = t2.i + 1
                rw [b3]
              · show t2'.er = 0
                rw [a1]; exact b1
              · show t2'.dp + -1 = t2.dp + -1
                rw [a3]
              · show (t2'.nd ++ [_]).map un = (t2.nd ++ [_]).map un
                rw [List.map_append, List.map_append, a4]
                rfl
              · show t2.i + 1 ≤ E
                omega
            · cases e8
          · cases e7
        · exfalso
          have hw : wantS T [125] t2 = failS T 20 t2 := if_neg hb
          have hn : failS T 20 t2 = { t2 with pl := (tokA T t2).p, er := 20, i := T.length - 1 } := if_pos b1
          rw [hw, hn] at e7
          unfold deepS at e7
          split at e7
          · injection e7 with e7
            injection e7 with _ e9
            rw [← e9] at n3
            exact absurd n3 (by show ¬ (20 : Nat) = 0; decide)
          · cases e7
      · exact absurd n2 b1
end
end Go.Proofs.YtgelggdgbmldiaaDoor
