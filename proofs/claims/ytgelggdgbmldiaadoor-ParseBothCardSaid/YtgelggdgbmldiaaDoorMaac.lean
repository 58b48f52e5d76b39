/-
  Layer 1: what tokens are: alone, put together again, and where they stand. Written by an AI agent.
  Layer 1: the tokens of texts of certain forms. Written by an AI agent.
  What stays in memory; append of elements of many cells. Written by an AI agent.
  Layer 1: the contracts of digit, letter, blank, and of how many bytes are of a kind. Written by an AI agent.
-/
import Derived.Test.YtgelggdgbmldiaaDoorMaab
import Derived.Test.YtgelggdgbmldiaaDoorChecked
import Derived.Laws.OwnMore
import Derived.Laws.AppendOwnNone
import Derived.OwnWalk
import Derived.Lib.AppendZerosOnto
import Derived.Below
import Derived.Stop.Walk2
import Derived.WalkKit
import Derived.WalkLawsBesides
import Derived.WalkSpells
import Derived.Outline
import Derived.BigQuiet
import Derived.Deep.CutBlock
import Derived.Deep.CutRange
import Derived.Deep.DeepCutAuto
import Derived.Deep.RegionHeld3
import Derived.Deep.RegionLaw
import Derived.Deep.RegionWith
import Derived.StillTailTactics
import Derived.RegionTactic
import Derived.Laws.StructEq
import Derived.Lib.Hide
namespace Go.Proofs.YtgelggdgbmldiaaDoor
set_option linter.unusedVariables false
set_option linter.unusedSimpArgs false

/-- A token's bytes. -/
def tokB (t : Tok) : List UInt8 := if t.k = 2 then 34 :: (t.x ++ [34]) else t.x

/-- What follows does not belong to it. -/
def Apart (rest : List UInt8) : Prop := rest = [] ∨ ∃ r, rest = 32 :: r

structure GoodTok (t : Tok) : Prop where
  ne : tokB t ≠ []
  first : ∀ rest, Apart rest → firstL (tokB t ++ rest) = (t.k, (tokB t).length, 0)
  nblk : ∀ c r, tokB t = c :: r → blk c = false
  nrem : ∀ rest, Apart rest → isRem (tokB t ++ rest) = false
  said : saidL t.k (tokB t) = t.x
  kind : t.k = 1 ∨ t.k = 2 ∨ t.k = 3 ∨ t.k = 4 ∨ t.k = 5
  word : t.k = 2 ∨ (t.k = 4 ↔ isWord t.x = true)

theorem run_apart (p : UInt8 → Bool) (hp : p 32 = false) {rest : List UInt8} (h : Apart rest) : runL p rest = 0 := by
  rcases h with rfl | ⟨r, rfl⟩
  · rfl
  · exact runL_cons_false p _ _ hp

theorem rem_head {c : UInt8} {r : List UInt8} (h : isRem (c :: r) = true) : c = 47 := by
  obtain ⟨t, e⟩ := List.isPrefixOf_iff_prefix.1 h
  have := congrArg List.head? e
  simp at this
  exact this.symm

theorem word_head {l : List UInt8} (h : isWord l = true) : ∃ c r, l = c :: r ∧ ltr c = true := by
  unfold isWord at h
  rw [List.contains_iff_mem] at h
  simp only [wordsL, List.mem_cons, List.not_mem_nil, or_false] at h
  rcases h with rfl | rfl | rfl | rfl | rfl | rfl | rfl | rfl | rfl | rfl | rfl | rfl | rfl | rfl | rfl | rfl <;> exact ⟨_, _, rfl, by decide⟩

theorem good_number {c : UInt8} {r : List UInt8} (p : Nat) (h0 : blk c = false) (h1 : dig c = true) (he : (numberL (c :: r)).2.2 = 0) :
    GoodTok ⟨1, (c :: r).take (runL dig (c :: r)), p⟩ ∧ numberL (c :: r) = (1, runL dig (c :: r), 0) := by
  have hr : runL dig (c :: r) = runL dig r + 1 := by show (if dig c then _ else 0) = _; rw [if_pos h1]
  have hall := runL_all dig (c :: r)
  have hle := runL_le dig (c :: r)
  unfold numberL at he ⊢
  split at he
  · rename_i hc
    rw [if_pos hc]
    refine ⟨?_, rfl⟩
    obtain ⟨z, hz⟩ : ∃ z, z = runL dig (c :: r) := ⟨_, rfl⟩
    rw [← hz] at hr hall hle hc ⊢
    obtain ⟨b, hb⟩ : ∃ b, b = (c :: r).take z := ⟨_, rfl⟩
    have hbl : b.length = z := by rw [hb, List.length_take]; omega
    have hbc : ∃ b', b = c :: b' := ⟨r.take (runL dig r), by rw [hb, hr, List.take_succ_cons]⟩
    rw [← hb] at hall hc ⊢
    obtain ⟨b', hb'⟩ := hbc
    have ht : tokB ⟨1, b, p⟩ = b := rfl
    have hc47 : c ≠ 47 := fun e => by rw [e] at h1; revert h1; decide
    refine ⟨by rw [ht, hb']; simp, fun rest hrest => ?_, fun c' r' e => ?_, fun rest hrest => ?_, ?_, .inl rfl, .inr ⟨(fun h => by cases h), fun h => ?_⟩⟩
    · rw [ht]
      have hrun : runL dig (b ++ rest) = z := by rw [runL_append dig b rest hall, run_apart dig (by decide) hrest, hbl]; rfl
      unfold firstL
      rw [show (b ++ rest).headD 0 = c by rw [hb']; rfl, if_pos h1]
      unfold numberL
      rw [hrun, List.take_left' hbl, if_pos hc, hbl]
    · rw [ht, hb'] at e
      injection e with e1 e2
      rw [← e1]; exact h0
    · rw [ht, hb']
      cases h : isRem (c :: b' ++ rest) with
      | false => rfl
      | true => exact absurd (rem_head h) hc47
    · rfl
    · obtain ⟨d, q, e, hd⟩ := word_head h
      have e : b = d :: q := e
      rw [hb'] at e
      injection e with e1 e2
      rw [← e1] at hd
      exfalso
      unfold ltr at hd; unfold dig at h1
      simp at hd h1
      omega
  · cases he

theorem good_name {c : UInt8} {r : List UInt8} (p : Nat) (h0 : blk c = false) (h1 : dig c = false) (h2 : ltr c = true) (he : (nameL (c :: r)).2.2 = 0) :
    GoodTok ⟨(nameL (c :: r)).1, (c :: r).take (runL nmc (c :: r)), p⟩ ∧ (nameL (c :: r)).2.1 = runL nmc (c :: r) ∧ ((nameL (c :: r)).1 = 3 ∨ (nameL (c :: r)).1 = 4) := by
  have hn : nmc c = true := by unfold nmc; rw [h2]; rfl
  have hr : runL nmc (c :: r) = runL nmc r + 1 := by show (if nmc c then _ else 0) = _; rw [if_pos hn]
  have hall := runL_all nmc (c :: r)
  have hle := runL_le nmc (c :: r)
  obtain ⟨z, hz⟩ : ∃ z, z = runL nmc (c :: r) := ⟨_, rfl⟩
  obtain ⟨b, hb⟩ : ∃ b, b = (c :: r).take z := ⟨_, rfl⟩
  have key : ∀ k, nameL (c :: r) = (k, z, 0) → (k = 3 ∨ k = 4) → (k = 4 ↔ isWord b = true) → (k = 3 → ¬ 8 < z) → GoodTok ⟨k, b, p⟩ := by
    intro k hk hk2 hk3 hk4
    rw [← hz] at hr hall hle
    have hbl : b.length = z := by rw [hb, List.length_take]; omega
    have hbc : ∃ b', b = c :: b' := ⟨r.take (runL nmc r), by rw [hb, hr, List.take_succ_cons]⟩
    rw [← hb] at hall
    obtain ⟨b', hb'⟩ := hbc
    have hk2' : ¬ k = 2 := by omega
    have ht : tokB ⟨k, b, p⟩ = b := by unfold tokB; rw [if_neg hk2']
    have hc47 : c ≠ 47 := fun e => by rw [e] at h2; revert h2; decide
    refine ⟨by rw [ht, hb']; simp, fun rest hrest => ?_, fun c' r' e => ?_, fun rest hrest => ?_, ?_, by show k = 1 ∨ k = 2 ∨ k = 3 ∨ k = 4 ∨ k = 5; omega, .inr hk3⟩
    · rw [ht]
      have hrun : runL nmc (b ++ rest) = z := by rw [runL_append nmc b rest hall, run_apart nmc (by decide) hrest, hbl]; rfl
      unfold firstL
      rw [show (b ++ rest).headD 0 = c by rw [hb']; rfl, if_neg (by rw [h1]; decide), if_pos h2]
      unfold nameL
      rw [hrun, List.take_left' hbl, hbl]
      rcases hk2 with rfl | rfl
      · rw [if_neg (fun h => by have := hk3.2 h; omega), if_neg (hk4 rfl)]
      · rw [if_pos (hk3.1 rfl)]
    · rw [ht, hb'] at e
      injection e with e1 e2
      rw [← e1]; exact h0
    · rw [ht, hb']
      cases h : isRem (c :: b' ++ rest) with
      | false => rfl
      | true => exact absurd (rem_head h) hc47
    · rw [ht]; unfold saidL; rw [if_neg hk2']
  unfold nameL at he ⊢
  rw [← hz, ← hb] at he ⊢
  split at he
  · rename_i hc
    rw [if_pos hc]
    exact ⟨key 4 (by unfold nameL; rw [← hz, ← hb, if_pos hc]) (.inr rfl) ⟨fun _ => hc, fun _ => rfl⟩ (fun h => by cases h), rfl, .inr rfl⟩
  · rename_i hc
    rw [if_neg hc]
    split at he
    · cases he
    · rename_i hd
      rw [if_neg hd]
      exact ⟨key 3 (by unfold nameL; rw [← hz, ← hb, if_neg hc, if_neg hd]) (.inl rfl) ⟨(fun h => by cases h), fun h => absurd h hc⟩ (fun _ => hd), rfl, .inl rfl⟩

theorem good_text {r : List UInt8} (p : Nat) (he : (textL r).2.2 = 0) :
    GoodTok ⟨2, r.take (runL txc r), p⟩ ∧ textL r = (2, runL txc r + 2, 0) ∧ (34 :: r).take (runL txc r + 2) = 34 :: (r.take (runL txc r) ++ [34]) := by
  have hall := runL_all txc r
  obtain ⟨z, hz⟩ : ∃ z, z = runL txc r := ⟨_, rfl⟩
  unfold textL at he ⊢
  rw [← hz] at he hall ⊢
  split at he
  · rename_i hc
    rw [if_pos hc]
    split at he
    · cases he
    · rename_i hd
      rw [if_neg hd]
      obtain ⟨hlt, hg⟩ := List.getElem?_eq_some_iff.1 hc
      have htk : (34 :: r).take (z + 2) = 34 :: (r.take z ++ [34]) := by
        rw [List.take_succ_cons, List.take_succ_eq_append_getElem hlt, hg]
      obtain ⟨b, hb⟩ : ∃ b, b = r.take z := ⟨_, rfl⟩
      have hbl : b.length = z := by rw [hb, List.length_take]; omega
      rw [← hb] at hall htk ⊢
      refine ⟨?_, rfl, htk⟩
      have ht : tokB ⟨2, b, p⟩ = 34 :: (b ++ [34]) := rfl
      refine ⟨by rw [ht]; simp, fun rest hrest => ?_, fun c' r' e => ?_, fun rest hrest => ?_, ?_, .inr (.inl rfl), .inl rfl⟩
      · rw [ht]
        have hrun : runL txc (b ++ [34] ++ rest) = z := by
          rw [List.append_assoc, runL_append txc b _ hall, hbl]
          show z + runL txc (34 :: rest) = z
          rw [runL_cons_false _ _ _ (by decide)]
          rfl
        show firstL ((34 : UInt8) :: (b ++ [34] ++ rest)) = _
        rw [firstL_cons, if_neg (by decide), if_neg (by decide), if_pos rfl]
        unfold textL
        rw [hrun, if_pos (by rw [List.append_assoc, List.getElem?_append_right (by omega), hbl]; simp), if_neg hd, List.length_cons, List.length_append, hbl]
        rfl
      · rw [ht] at e
        injection e with e1 e2
        rw [← e1]; decide
      · rw [ht]
        cases h : isRem (34 :: (b ++ [34]) ++ rest) with
        | false => rfl
        | true => have := rem_head h; revert this; decide
      · rw [ht]
        unfold saidL
        rw [if_pos rfl]
        simp [List.take_succ_cons, hbl]
  · cases he

theorem good_sign {c : UInt8} {r : List UInt8} (p : Nat) (h0 : blk c = false) (hrem : isRem (c :: r) = false) (h1 : dig c = false) (h2 : ltr c = false) (h3 : ¬ c = 34) (he : (signL (c :: r)).2.2 = 0) :
    GoodTok ⟨5, (c :: r).take (signL (c :: r)).2.1, p⟩ ∧ (signL (c :: r)).1 = 5 := by
  rw [signL_cons] at he ⊢
  by_cases h4 : isTwo (c :: r) = true
  · rw [if_pos h4]
    refine ⟨?_, rfl⟩
    have h5 := h4
    unfold isTwo at h5
    rw [List.any_eq_true] at h5
    obtain ⟨t, ht, hp⟩ := h5
    have ht' := ht
    obtain ⟨s, hs⟩ := List.isPrefixOf_iff_prefix.1 hp
    have hl : t.length = 2 := by
      simp only [twosL, List.mem_cons, List.not_mem_nil, or_false] at ht
      rcases ht with rfl | rfl | rfl | rfl | rfl <;> rfl
    show GoodTok ⟨5, (c :: r).take 2, p⟩
    have hb : (c :: r).take 2 = t := by rw [← hs, List.take_left' hl]
    rw [hb]
    have htok : tokB ⟨5, t, p⟩ = t := rfl
    have hw : isWord t = false ∧ t ≠ [] ∧ (∀ c' r', t = c' :: r' → blk c' = false ∧ c' ≠ 47 ∧ dig c' = false ∧ ltr c' = false ∧ ¬ c' = 34) := by
      simp only [twosL, List.mem_cons, List.not_mem_nil, or_false] at ht'
      rcases ht' with rfl | rfl | rfl | rfl | rfl <;> exact ⟨by decide, by simp, fun c' r' e => by injection e with e1 _; rw [← e1]; decide⟩
    obtain ⟨c', r', hcr⟩ := List.exists_cons_of_ne_nil hw.2.1
    obtain ⟨q0, q1, q2, q3, q4⟩ := hw.2.2 c' r' hcr
    refine ⟨hw.2.1, fun rest hrest => ?_, fun c' r' e => (hw.2.2 c' r' e).1, fun rest hrest => ?_, rfl, .inr (.inr (.inr (.inr rfl))), .inr ⟨(fun h => by cases h), fun h => by
      rw [show isWord (({ k := 5, x := t, p := p } : Tok).x) = isWord t from rfl, hw.1] at h; cases h⟩⟩
    · rw [htok]
      unfold firstL
      rw [show (t ++ rest).headD 0 = c' by rw [hcr]; rfl, if_neg (by rw [q2]; decide), if_neg (by rw [q3]; decide), if_neg q4]
      unfold signL
      rw [if_pos (by unfold isTwo; rw [List.any_eq_true]; exact ⟨t, ht, List.isPrefixOf_iff_prefix.2 ⟨rest, rfl⟩⟩), hl]
    · rw [htok]
      cases h : isRem (t ++ rest) with
      | false => rfl
      | true =>
        rw [hcr, List.cons_append] at h
        exact absurd (rem_head h) q1
  · rw [if_neg h4] at he ⊢
    split at he
    · rename_i h5
      rw [if_pos h5]
      refine ⟨?_, rfl⟩
      show GoodTok ⟨5, [c], p⟩
      have htok : tokB ⟨5, [c], p⟩ = [c] := rfl
      refine ⟨by rw [htok]; simp, fun rest hrest => ?_, fun c' r' e => ?_, fun rest hrest => ?_, rfl, .inr (.inr (.inr (.inr rfl))), .inr ⟨(fun h => by cases h), fun h => ?_⟩⟩
      · rw [htok]
        show firstL (c :: rest) = (5, 1, 0)
        unfold firstL
        rw [List.headD_cons, if_neg (by rw [h1]; decide), if_neg (by rw [h2]; decide), if_neg h3]
        unfold signL
        rw [if_neg, List.headD_cons, if_pos h5]
        intro hh
        unfold isTwo at hh
        rw [List.any_eq_true] at hh
        obtain ⟨t, ht, hp⟩ := hh
        obtain ⟨s, hs⟩ := List.isPrefixOf_iff_prefix.1 hp
        simp only [twosL, List.mem_cons, List.not_mem_nil, or_false] at ht
        rcases hrest with rfl | ⟨q, rfl⟩ <;> rcases ht with rfl | rfl | rfl | rfl | rfl <;> simp at hs
      · rw [htok] at e
        injection e with e1 _
        rw [← e1]; exact h0
      · rw [htok]
        cases h : isRem ([c] ++ rest) with
        | false => rfl
        | true =>
          obtain ⟨s, hs⟩ := List.isPrefixOf_iff_prefix.1 h
          rcases hrest with rfl | ⟨q, rfl⟩ <;> simp at hs
      · obtain ⟨d, q, e, hd⟩ := word_head h
        injection e with e1 _
        rw [← e1, h2] at hd
        cases hd
    · cases he

/-- A token that a source begins with. -/
theorem first_good {c : UInt8} {r : List UInt8} (p : Nat) (h0 : blk c = false) (hrem : isRem (c :: r) = false) (he : (firstL (c :: r)).2.2 = 0) :
    GoodTok ⟨(firstL (c :: r)).1, saidL (firstL (c :: r)).1 ((c :: r).take (firstL (c :: r)).2.1), p⟩ ∧ tokB ⟨(firstL (c :: r)).1, saidL (firstL (c :: r)).1 ((c :: r).take (firstL (c :: r)).2.1), p⟩ = (c :: r).take (firstL (c :: r)).2.1 := by
  by_cases h1 : dig c = true
  · have e : firstL (c :: r) = numberL (c :: r) := by unfold firstL; rw [List.headD_cons, if_pos h1]
    rw [e] at he ⊢
    obtain ⟨g, e2⟩ := good_number p h0 h1 he
    rw [e2]
    exact ⟨g, rfl⟩
  have h1 : dig c = false := by simpa using h1
  by_cases h2 : ltr c = true
  · have e : firstL (c :: r) = nameL (c :: r) := by unfold firstL; rw [List.headD_cons, if_neg (by rw [h1]; decide), if_pos h2]
    rw [e] at he ⊢
    obtain ⟨g, e2, e3⟩ := good_name p h0 h1 h2 he
    rw [e2]
    obtain ⟨k, hk⟩ : ∃ k, k = (nameL (c :: r)).1 := ⟨_, rfl⟩
    rw [← hk] at g e3 ⊢
    have hk2 : ¬ k = 2 := by omega
    rw [show saidL k ((c :: r).take (runL nmc (c :: r))) = (c :: r).take (runL nmc (c :: r)) by unfold saidL; rw [if_neg hk2]]
    exact ⟨g, by unfold tokB; rw [if_neg hk2]⟩
  have h2 : ltr c = false := by simpa using h2
  by_cases h3 : c = 34
  · subst h3
    have e : firstL (34 :: r) = textL r := by unfold firstL; rw [List.headD_cons, if_neg (by decide), if_neg (by decide), if_pos rfl]; rfl
    rw [e] at he ⊢
    obtain ⟨g, e2, e3⟩ := good_text p he
    rw [e2]
    show GoodTok ⟨2, saidL 2 ((34 :: r).take (runL txc r + 2)), p⟩ ∧ tokB ⟨2, saidL 2 ((34 :: r).take (runL txc r + 2)), p⟩ = (34 :: r).take (runL txc r + 2)
    rw [e3]
    have hs : saidL 2 (34 :: (r.take (runL txc r) ++ [34])) = r.take (runL txc r) := g.said
    rw [hs]
    exact ⟨g, rfl⟩
  · have e : firstL (c :: r) = signL (c :: r) := by unfold firstL; rw [List.headD_cons, if_neg (by rw [h1]; decide), if_neg (by rw [h2]; decide), if_neg h3]
    rw [e] at he ⊢
    obtain ⟨g, e2⟩ := good_sign p h0 hrem h1 h2 h3 he
    rw [e2]
    exact ⟨g, rfl⟩

/-- All tokens but the last one. -/
theorem lexL_good (l : List UInt8) (p : Nat) : (lexL l p).2 = none → ∃ init, (lexL l p).1 = init ++ [⟨0, [], p + l.length⟩] ∧ ∀ t ∈ init, GoodTok t := by
  refine lexL_ind (P := fun l p => (lexL l p).2 = none → ∃ init, (lexL l p).1 = init ++ [⟨0, [], p + l.length⟩] ∧ ∀ t ∈ init, GoodTok t) ?_ ?_ ?_ ?_ ?_ ?_ l p
  · exact fun p _ => ⟨[], rfl, fun t h => by cases h⟩
  · intro c r p h ih hn
    rw [lexL_blank h] at hn ⊢
    obtain ⟨i, h1, h2⟩ := ih hn
    exact ⟨i, by rw [h1, List.length_cons, show p + 1 + r.length = p + (r.length + 1) by omega], h2⟩
  · intro c r p h h1 h2 hn
    rw [lexL_rem_end h h1 h2]
    exact ⟨[], rfl, fun t h => by cases h⟩
  · intro c r p h h1 h2 ih hn
    rw [lexL_rem h h1 h2] at hn ⊢
    obtain ⟨i, k1, k2⟩ := ih hn
    have hle := runL_le (fun d => !decide (d = 10)) (c :: r)
    exact ⟨i, by rw [k1, List.length_drop, show p + runL (fun d => !decide (d = 10)) (c :: r) + ((c :: r).length - runL (fun d => !decide (d = 10)) (c :: r)) = p + (c :: r).length by omega], k2⟩
  · intro c r p h h1 h2 hn
    rw [lexL_bad h h1 h2] at hn
    cases hn
  · intro c r p h h1 h2 ih hn
    rw [lexL_tok h h1 h2] at hn ⊢
    obtain ⟨i, k1, k2⟩ := ih hn
    have hz := first_size (c :: r) (by simp) h2
    refine ⟨_ :: i, by rw [k1, List.cons_append, List.length_drop, show p + (firstL (c :: r)).2.1 + ((c :: r).length - (firstL (c :: r)).2.1) = p + (c :: r).length by omega], fun t ht => ?_⟩
    rcases List.mem_cons.1 ht with rfl | ht
    · exact (first_good p h h1 h2).1
    · exact k2 t ht

/-- Tokens with a blank ahead of each. -/
def joinT : List Tok → List UInt8
  | [] => []
  | t :: ts => 32 :: (tokB t ++ joinT ts)
theorem join_apart (ts : List Tok) : Apart (joinT ts) := by
  cases ts with
  | nil => exact .inl rfl
  | cons t ts => exact .inr ⟨_, rfl⟩
theorem join_append (a b : List Tok) : joinT (a ++ b) = joinT a ++ joinT b := by
  induction a with
  | nil => rfl
  | cons t a ih => simp [joinT, ih]
theorem lexL_join (ts : List Tok) (h : ∀ t ∈ ts, GoodTok t) (p : Nat) : (lexL (joinT ts) p).2 = none ∧ (lexL (joinT ts) p).1.map (fun t => (t.k, t.x)) = ts.map (fun t => (t.k, t.x)) ++ [(0, [])] := by
  induction ts generalizing p with
  | nil => exact ⟨rfl, rfl⟩
  | cons t ts ih =>
    have hg := h t (by simp)
    have hb : blk 32 = true := by decide
    show (lexL (32 :: (tokB t ++ joinT ts)) p).2 = none ∧ (lexL (32 :: (tokB t ++ joinT ts)) p).1.map _ = _
    rw [lexL_blank hb]
    obtain ⟨c, r, e⟩ := List.exists_cons_of_ne_nil hg.ne
    have h1 := hg.first _ (join_apart ts)
    have h2 := hg.nrem _ (join_apart ts)
    have h3 := hg.nblk c r e
    have hd : (tokB t ++ joinT ts).drop (tokB t).length = joinT ts := List.drop_left
    have htk : (tokB t ++ joinT ts).take (tokB t).length = tokB t := List.take_left
    have hs := hg.said
    obtain ⟨i1, i2⟩ := ih (fun t ht => h t (by simp [ht])) (p + 1 + (tokB t).length)
    obtain ⟨l, hl⟩ : ∃ l, l = tokB t ++ joinT ts := ⟨_, rfl⟩
    rw [← hl] at h1 h2 hd htk ⊢
    have hl2 : l = c :: (r ++ joinT ts) := by rw [hl, e]; rfl
    have he : (firstL l).2.2 = 0 := by rw [h1]
    rw [hl2] at he h2
    have h5 := lexL_tok (p := p + 1) h3 h2 he
    rw [← hl2, h1] at h5
    rw [h5]
    simp only [hd, htk, hs]
    exact ⟨i1, by rw [List.map_cons, i2, List.map_cons, List.cons_append]⟩

/-- What stands between tokens: blanks, up to a slash. -/
def Gap (g : List UInt8) : Prop := ∀ c ∈ g.take (runL (fun d => !decide (d = 47)) g), blk c = true

theorem gap_nil : Gap [] := fun c h => by cases h
theorem gap_more {g : List UInt8} (h : Gap g) (x : List UInt8) (hx : (∀ c ∈ x, blk c = true) ∨ ∃ r, x = 47 :: r) : Gap (g ++ x) := by
  intro c hc
  by_cases hall : ∀ d ∈ g, (fun d : UInt8 => !decide (d = 47)) d = true
  · rw [runL_append _ g x hall, List.take_append, List.take_of_length_le (by omega), List.mem_append] at hc
    rcases hc with hc | hc
    · exact h c (by rw [runL_whole _ g hall, List.take_length]; exact hc)
    · rcases hx with hx | ⟨r, rfl⟩
      · exact hx c (List.mem_of_mem_take hc)
      · rw [runL_cons_false _ _ _ (by decide)] at hc
        simp at hc
  · have hlt : runL (fun d : UInt8 => !decide (d = 47)) g < g.length := by
      rcases Nat.lt_or_ge (runL (fun d : UInt8 => !decide (d = 47)) g) g.length with h1 | h1
      · exact h1
      · exfalso
        apply hall
        have := runL_all (fun d : UInt8 => !decide (d = 47)) g
        rw [List.take_of_length_le h1] at this
        exact this
    have e : runL (fun d : UInt8 => !decide (d = 47)) (g ++ x) = runL (fun d : UInt8 => !decide (d = 47)) g := by
      have h2 : ∀ (g : List UInt8), runL (fun d : UInt8 => !decide (d = 47)) g < g.length → runL (fun d : UInt8 => !decide (d = 47)) (g ++ x) = runL (fun d : UInt8 => !decide (d = 47)) g := by
        intro g
        induction g with
        | nil => intro h; simp at h
        | cons d g ih =>
          intro h
          rw [List.cons_append]
          show (if (fun d : UInt8 => !decide (d = 47)) d then _ else 0) = (if (fun d : UInt8 => !decide (d = 47)) d then _ else 0)
          by_cases hd : (fun d : UInt8 => !decide (d = 47)) d = true
          · rw [if_pos hd, if_pos hd, ih]
            have e : runL (fun d : UInt8 => !decide (d = 47)) (d :: g) = runL (fun d : UInt8 => !decide (d = 47)) g + 1 := by
              show (if (fun d : UInt8 => !decide (d = 47)) d then _ else 0) = _
              rw [if_pos hd]
            rw [e, List.length_cons] at h
            omega
          · rw [if_neg hd, if_neg hd]
      exact h2 g hlt
    rw [e, List.take_append_of_le_length (by omega)] at hc
    exact h c hc

/-- Where tokens stand. -/
def Pl (s : List UInt8) : Nat → List Tok → Prop
  | _, [] => False
  | e, t :: ts => e ≤ t.p ∧ t.p ≤ s.length ∧ Gap ((s.drop e).take (t.p - e)) ∧
      ((ts = [] ∧ t = ⟨0, [], s.length⟩) ∨ (ts ≠ [] ∧ GoodTok t ∧ t.p + (tokB t).length ≤ s.length ∧ (s.drop t.p).take (tokB t).length = tokB t ∧ Pl s (t.p + (tokB t).length) ts))

theorem lexL_ne (l : List UInt8) (p : Nat) (h : (lexL l p).2 = none) : (lexL l p).1 ≠ [] := by
  obtain ⟨i, e, _⟩ := lexL_good l p h
  rw [e]
  simp

theorem lexL_places (s l : List UInt8) (p : Nat) : ∀ e, l = s.drop p → p ≤ s.length → e ≤ p → Gap ((s.drop e).take (p - e)) → (lexL l p).2 = none → Pl s e (lexL l p).1 := by
  have hgap : ∀ e p n, e ≤ p → (s.drop e).take (p + n - e) = (s.drop e).take (p - e) ++ (s.drop p).take n := fun e p n h => by
    rw [show p + n - e = (p - e) + n by omega, List.take_add, List.drop_drop, show e + (p - e) = p by omega]
  refine lexL_ind (P := fun l p => ∀ e, l = s.drop p → p ≤ s.length → e ≤ p → Gap ((s.drop e).take (p - e)) → (lexL l p).2 = none → Pl s e (lexL l p).1) ?_ ?_ ?_ ?_ ?_ ?_ l p
  · intro p e hl hp he hg hn
    have : s.length ≤ p := by have := congrArg List.length hl; rw [List.length_drop] at this; simp at this; omega
    obtain rfl : p = s.length := by omega
    rw [lexL_nil]
    exact ⟨he, hp, hg, .inl ⟨rfl, rfl⟩⟩
  · intro c r p h ih e hl hp he hg hn
    have hlen : p + 1 ≤ s.length := by have := congrArg List.length hl; rw [List.length_drop, List.length_cons] at this; omega
    rw [lexL_blank h] at hn ⊢
    refine ih e ?_ hlen (by omega) ?_ hn
    · rw [← List.drop_drop, ← hl]; rfl
    · rw [hgap e p 1 he, ← hl]
      exact gap_more hg _ (.inl fun d hd => by simp at hd; rw [hd]; exact h)
  · intro c r p h h1 h2 e hl hp he hg hn
    have hlen : p + (c :: r).length = s.length := by have := congrArg List.length hl; rw [List.length_drop] at this; omega
    rw [lexL_rem_end h h1 h2, hlen]
    refine ⟨by show e ≤ s.length; omega, Nat.le_refl _, ?_, .inl ⟨rfl, rfl⟩⟩
    show Gap ((s.drop e).take (s.length - e))
    rw [← hlen, hgap e p _ he, ← hl]
    exact gap_more hg _ (.inr ⟨r, by rw [List.take_length, rem_head h1]⟩)
  · intro c r p h h1 h2 ih e hl hp he hg hn
    have hlen : p + (c :: r).length = s.length := by have := congrArg List.length hl; rw [List.length_drop] at this; omega
    have hle := runL_le (fun d => !decide (d = 10)) (c :: r)
    have hz := rem_size _ h1
    rw [lexL_rem h h1 h2] at hn ⊢
    obtain ⟨z, hzz⟩ : ∃ z, z = runL (fun d => !decide (d = 10)) (c :: r) := ⟨_, rfl⟩
    rw [← hzz] at ih hle hz hn ⊢
    refine ih e ?_ (by omega) (by omega) ?_ hn
    · rw [← List.drop_drop, ← hl]
    · rw [hgap e p z he, ← hl]
      obtain ⟨m, hm⟩ : ∃ m, z = m + 1 := ⟨z - 1, by omega⟩
      exact gap_more hg _ (.inr ⟨r.take m, by rw [hm, List.take_succ_cons, rem_head h1]⟩)
  · intro c r p h h1 h2 e hl hp he hg hn
    rw [lexL_bad h h1 h2] at hn
    cases hn
  · intro c r p h h1 h2 ih e hl hp he hg hn
    have hlen : p + (c :: r).length = s.length := by have := congrArg List.length hl; rw [List.length_drop] at this; omega
    obtain ⟨g, gb⟩ := first_good p h h1 h2
    have hz := first_size (c :: r) (by simp) h2
    rw [lexL_tok h h1 h2] at hn ⊢
    have hbl : (tokB ⟨(firstL (c :: r)).1, saidL (firstL (c :: r)).1 ((c :: r).take (firstL (c :: r)).2.1), p⟩).length = (firstL (c :: r)).2.1 := by rw [gb, List.length_take]; omega
    refine ⟨he, hp, hg, .inr ⟨lexL_ne _ _ hn, g, ?_, ?_, ?_⟩⟩
    · rw [hbl]; show p + _ ≤ _; omega
    · rw [hbl, gb]
      show (s.drop p).take _ = _
      rw [← hl]
    · rw [hbl]
      refine ih (p + (firstL (c :: r)).2.1) ?_ (by omega) (Nat.le_refl _) (by rw [Nat.sub_self]; exact gap_nil) hn
      rw [← List.drop_drop, ← hl]

end Go.Proofs.YtgelggdgbmldiaaDoor

namespace Go.Proofs.YtgelggdgbmldiaaDoor
set_option linter.unusedVariables false
set_option linter.unusedSimpArgs false

theorem ltr_facts {c : UInt8} (h : ltr c = true) : dig c = false ∧ blk c = false ∧ c ≠ 47 ∧ nmc c = true := by
  refine ⟨?_, ?_, fun e => ?_, by unfold nmc; rw [h]; rfl⟩
  · unfold ltr at h
    unfold dig
    simp at h ⊢
    omega
  · unfold ltr at h
    unfold blk
    simp at h ⊢
    omega
  · rw [e] at h
    revert h
    decide
theorem dig_facts {c : UInt8} (h : dig c = true) : ltr c = false ∧ blk c = false ∧ c ≠ 47 := by
  refine ⟨?_, ?_, fun e => ?_⟩
  · unfold dig at h
    unfold ltr
    simp at h ⊢
    omega
  · unfold dig at h
    unfold blk
    simp at h ⊢
    omega
  · rw [e] at h
    revert h
    decide
theorem not_rem {c : UInt8} {r : List UInt8} (h : c ≠ 47) : isRem (c :: r) = false := by
  cases hh : isRem (c :: r) with
  | false => rfl
  | true => exact absurd (rem_head hh) h

theorem lex_name {c : UInt8} {r : List UInt8} (h : ltr c = true) (hall : ∀ d ∈ c :: r, nmc d = true) (p : Nat) :
    lexL (c :: r) p = if isWord (c :: r) then ([⟨4, c :: r, p⟩, ⟨0, [], p + (c :: r).length⟩], none) else if 8 < (c :: r).length then ([], some (p, 13)) else ([⟨3, c :: r, p⟩, ⟨0, [], p + (c :: r).length⟩], none) := by
  obtain ⟨h1, h2, h3, h4⟩ := ltr_facts h
  have hrun := runL_whole nmc (c :: r) hall
  have hf : firstL (c :: r) = nameL (c :: r) := by unfold firstL; rw [List.headD_cons, if_neg (by rw [h1]; decide), if_pos h]
  have hn : nameL (c :: r) = if isWord (c :: r) then (4, (c :: r).length, 0) else if 8 < (c :: r).length then (0, 0, 13) else (3, (c :: r).length, 0) := by unfold nameL; rw [hrun, List.take_length]
  by_cases hw : isWord (c :: r) = true
  · rw [if_pos hw] at hn ⊢
    rw [lexL_tok h2 (not_rem h3) (by rw [hf, hn]), hf, hn]
    simp only [List.take_length, List.drop_length]
    rfl
  · rw [if_neg hw] at hn ⊢
    by_cases hl : 8 < (c :: r).length
    · rw [if_pos hl] at hn ⊢
      rw [lexL_bad h2 (not_rem h3) (by rw [hf, hn]; decide), hf, hn]
    · rw [if_neg hl] at hn ⊢
      rw [lexL_tok h2 (not_rem h3) (by rw [hf, hn]), hf, hn]
      simp only [List.take_length, List.drop_length]
      rfl

theorem lex_semi (p : Nat) : lexL [59] p = ([⟨5, [59], p⟩, ⟨0, [], p + 1⟩], none) := by
  rw [lexL_tok (by decide) (by decide) (by decide)]
  rfl

theorem lex_number {c : UInt8} {r : List UInt8} (h : dig c = true) (hall : ∀ d ∈ c :: r, dig d = true) (hv : numV (c :: r) ≤ 9223372036854775807) :
    lexL (c :: r ++ [59]) 0 = if (c :: r).length ≤ 19 then ([⟨1, c :: r, 0⟩, ⟨5, [59], (c :: r).length⟩, ⟨0, [], (c :: r).length + 1⟩], none) else ([], some (0, 12)) := by
  obtain ⟨h1, h2, h3⟩ := dig_facts h
  have hrun : runL dig (c :: r ++ [59]) = (c :: r).length := by rw [runL_append dig _ _ hall, runL_cons_false _ _ _ (by decide)]; rfl
  have hf : firstL (c :: (r ++ [59])) = numberL (c :: r ++ [59]) := by unfold firstL; rw [List.headD_cons, if_pos h]; rfl
  have hn : numberL (c :: r ++ [59]) = if (c :: r).length ≤ 19 then (1, (c :: r).length, 0) else (0, 0, 12) := by
    unfold numberL
    rw [hrun, List.take_left]
    by_cases hl : (c :: r).length ≤ 19
    · rw [if_pos ⟨hv, hl⟩, if_pos hl]
    · rw [if_neg (fun h => hl h.2), if_neg hl]
  show lexL (c :: (r ++ [59])) 0 = _
  by_cases hl : (c :: r).length ≤ 19
  · rw [if_pos hl] at hn ⊢
    rw [lexL_tok h2 (not_rem h3) (by rw [hf, hn]), hf, hn]
    have e1 : (c :: (r ++ [59])).drop (c :: r).length = [59] := by
      show (c :: r ++ [59]).drop (c :: r).length = [59]
      exact List.drop_left
    have e2 : (c :: (r ++ [59])).take (c :: r).length = c :: r := by
      show (c :: r ++ [59]).take (c :: r).length = c :: r
      exact List.take_left
    simp only [e1, e2, Nat.zero_add, lex_semi]
    rfl
  · rw [if_neg hl] at hn ⊢
    rw [lexL_bad h2 (not_rem h3) (by rw [hf, hn]; decide), hf, hn]

theorem lex_big : lexL [57, 50, 50, 51, 51, 55, 50, 48, 51, 54, 56, 53, 52, 55, 55, 53, 56, 48, 56] 0 = ([], some (0, 12)) := by
  rw [lexL_bad (by decide) (by decide) (by decide +kernel), show (firstL [57, 50, 50, 51, 51, 55, 50, 48, 51, 54, 56, 53, 52, 55, 55, 53, 56, 48, 56]).2.2 = 12 from by decide +kernel]
theorem lex_most : (lexL [57, 50, 50, 51, 51, 55, 50, 48, 51, 54, 56, 53, 52, 55, 55, 53, 56, 48, 55] 0).2 = none ∧ (lexL [57, 50, 50, 51, 51, 55, 50, 48, 51, 54, 56, 53, 52, 55, 55, 53, 56, 48, 55] 0).1.length = 2 := by decide +kernel

theorem lex_text {x : List UInt8} (hq : (34 : UInt8) ∉ x) (p : Nat) :
    lexL (34 :: (x ++ [34])) p = if (∀ c ∈ x, txc c = true) then (if 12 < x.length then ([], some (p, 4)) else ([⟨2, x, p⟩, ⟨0, [], p + x.length + 2⟩], none)) else ([], some (p, 11)) := by
  have hf : firstL (34 :: (x ++ [34])) = textL (x ++ [34]) := by unfold firstL; rw [List.headD_cons, if_neg (by decide), if_neg (by decide), if_pos rfl]; rfl
  by_cases hall : ∀ c ∈ x, txc c = true
  · rw [if_pos hall]
    have hrun : runL txc (x ++ [34]) = x.length := by rw [runL_append txc _ _ hall, runL_cons_false _ _ _ (by decide)]; rfl
    have hg : (x ++ [34])[x.length]? = some 34 := by rw [List.getElem?_append_right (Nat.le_refl _), Nat.sub_self]; rfl
    by_cases hl : 12 < x.length
    · rw [if_pos hl]
      have hn : textL (x ++ [34]) = (0, 0, 4) := by unfold textL; rw [hrun, if_pos hg, if_pos hl]
      rw [lexL_bad (by decide) (not_rem (by decide)) (by rw [hf, hn]; decide), hf, hn]
    · rw [if_neg hl]
      have hn : textL (x ++ [34]) = (2, x.length + 2, 0) := by unfold textL; rw [hrun, if_pos hg, if_neg hl]
      rw [lexL_tok (by decide) (not_rem (by decide)) (by rw [hf, hn]), hf, hn]
      have hlen : (34 :: (x ++ [34])).length = x.length + 2 := by simp
      have e1 : (34 :: (x ++ [34])).drop (x.length + 2) = [] := List.drop_of_length_le (by omega)
      have e2 : (34 :: (x ++ [34])).take (x.length + 2) = 34 :: (x ++ [34]) := List.take_of_length_le (by omega)
      simp only [e1, e2]
      rw [lexL_nil]
      have e3 : saidL 2 (34 :: (x ++ [34])) = x := by
        unfold saidL
        rw [if_pos rfl, hlen]
        simp [List.take_succ_cons]
      rw [e3]
      rfl
  · rw [if_neg hall]
    have hn : textL (x ++ [34]) = (0, 0, 11) := by
      unfold textL
      rw [if_neg]
      intro h
      have hlt : runL txc (x ++ [34]) < x.length := by
        have hle := runL_le txc (x ++ [34])
        have hal := runL_all txc (x ++ [34])
        rcases Nat.lt_or_ge (runL txc (x ++ [34])) x.length with h1 | h1
        · exact h1
        · exfalso
          apply hall
          intro c hc
          apply hal
          rw [List.take_append]
          rw [List.take_of_length_le h1]
          exact List.mem_append_left _ hc
      rw [List.getElem?_append_left hlt] at h
      exact hq (List.mem_of_getElem? h)
    rw [lexL_bad (by decide) (not_rem (by decide)) (by rw [hf, hn]; decide), hf, hn]

theorem lex_open {x : List UInt8} (hq : (34 : UInt8) ∉ x) : (lexL (97 :: 32 :: 34 :: x) 0).2 = some (2, 11) := by
  have hf0 : firstL (97 :: 32 :: 34 :: x) = (3, 1, 0) := by
    have hr : runL nmc (97 :: 32 :: 34 :: x) = 1 := by
      show (if nmc 97 then runL nmc (32 :: 34 :: x) + 1 else 0) = 1
      rw [if_pos (by decide), runL_cons_false _ _ _ (by decide)]
    unfold firstL
    rw [List.headD_cons, if_neg (by decide), if_pos (by decide)]
    unfold nameL
    rw [hr]
    rfl
  rw [lexL_tok (by decide) (not_rem (by decide)) (by rw [hf0])]
  rw [hf0]
  show (lexL (32 :: 34 :: x) (0 + 1)).2 = _
  rw [lexL_blank (by decide)]
  have hf : firstL (34 :: x) = textL x := by unfold firstL; rw [List.headD_cons, if_neg (by decide), if_neg (by decide), if_pos rfl]; rfl
  have hn : textL x = (0, 0, 11) := by
    unfold textL
    rw [if_neg]
    intro h
    exact hq (List.mem_of_getElem? h)
  rw [lexL_bad (by decide) (not_rem (by decide)) (by rw [hf, hn]; decide), hf, hn]

def blanksL : List (List UInt8) := [[32], [9], [10], [47, 47, 32, 120, 32, 34, 10]]
theorem lex_gap1 {b : List UInt8} (hb : b ∈ blanksL) (l : List UInt8) (p : Nat) : lexL (b ++ l) p = lexL l (p + b.length) := by
  simp only [blanksL, List.mem_cons, List.not_mem_nil, or_false] at hb
  rcases hb with rfl | rfl | rfl | rfl
  · exact lexL_blank (by decide)
  · exact lexL_blank (by decide)
  · exact lexL_blank (by decide)
  · have hrun : runL (fun d => !decide (d = 10)) (47 :: 47 :: 32 :: 120 :: 32 :: 34 :: 10 :: l) = 6 := by
      have := runL_append (fun d : UInt8 => !decide (d = 10)) [47, 47, 32, 120, 32, 34] (10 :: l) (by decide)
      rw [runL_cons_false _ _ _ (by decide)] at this
      exact this
    show lexL (47 :: 47 :: 32 :: 120 :: 32 :: 34 :: 10 :: l) p = _
    have hrem : isRem (47 :: 47 :: 32 :: 120 :: 32 :: 34 :: 10 :: l) = true := List.isPrefixOf_iff_prefix.2 ⟨32 :: 120 :: 32 :: 34 :: 10 :: l, rfl⟩
    rw [lexL_rem (by decide) hrem (by rw [hrun]; simp), hrun]
    show lexL (10 :: l) (p + 6) = _
    rw [lexL_blank (by decide)]
    rfl
theorem lex_gap {b : List UInt8} (hb : b ∈ blanksL) (m : Nat) (l : List UInt8) (p : Nat) : lexL ((List.replicate m b).flatten ++ l) p = lexL l (p + m * b.length) := by
  induction m generalizing p with
  | zero => simp
  | succ m ih =>
    rw [List.replicate_succ, List.flatten_cons, List.append_assoc, lex_gap1 hb, ih, Nat.succ_mul, show p + b.length + m * b.length = p + (m * b.length + b.length) by omega]

end Go.Proofs.YtgelggdgbmldiaaDoor

namespace Go.Proofs.YtgelggdgbmldiaaDoor
open Go.RowKit
set_option linter.unusedVariables false
set_option linter.unusedSimpArgs false

/-- Only blocks of S may have changed; what is new stands behind. -/
structure Keeps (S : Nat → Prop) (w w' : World) : Prop where
  os : w'.os = w.os
  tape : w'.tape = w.tape
  output : w'.output = w.output
  size : w.heap.size ≤ w'.heap.size
  block : ∀ k, k < w.heap.size → ¬ S k → w'.heap[k]? = w.heap[k]?

theorem Keeps.refl (S : Nat → Prop) (w : World) : Keeps S w w := ⟨rfl, rfl, rfl, Nat.le_refl _, fun _ _ _ => rfl⟩
theorem Keeps.mono {S T : Nat → Prop} {w w' : World} (h : Keeps S w w') (hs : ∀ k, k < w.heap.size → S k → T k) : Keeps T w w' :=
  ⟨h.os, h.tape, h.output, h.size, fun k hk hn => h.block k hk fun hs' => hn (hs k hk hs')⟩
theorem Keeps.trans {S T : Nat → Prop} {a b c : World} (h : Keeps S a b) (k : Keeps T b c) (hs : ∀ x, x < a.heap.size → T x → S x) : Keeps S a c :=
  ⟨k.os.trans h.os, k.tape.trans h.tape, k.output.trans h.output, Nat.le_trans h.size k.size,
    fun x hx hn => (k.block x (Nat.lt_of_lt_of_le hx h.size) fun ht => hn (hs x hx ht)).trans (h.block x hx hn)⟩
theorem Keeps.drew {S : Nat → Prop} {a w : World} (h : Keeps S a w) : Keeps S a w.drew := ⟨h.os, h.tape, h.output, h.size, h.block⟩
theorem Keeps.alloc {S : Nat → Prop} {a w : World} (h : Keeps S a w) (o : Obj) : Keeps S a (w.alloc o) :=
  h.trans (T := S) ⟨rfl, rfl, rfl, by simp, fun k hk _ => Below.heap_alloc w o k hk⟩ (fun _ _ h => h)
theorem Keeps.setCell {S : Nat → Prop} {a w : World} (h : Keeps S a w) {p : Addr} (hp : p.block < a.heap.size → S p.block) (u : Value) : Keeps S a (w.setCell p u) :=
  ⟨h.os, h.tape, h.output, by simpa using h.size, fun k hk hn => (Below.heap_setCell w p u k (fun e => hn (by subst e; exact hp hk))).trans (h.block k hk hn)⟩
theorem Keeps.grown {S : Nat → Prop} {a w w' : World} {row : Option Nat} (h : Keeps S a w) (hg : w.grownBy w' row) (hr : ∀ k, row = some k → k < a.heap.size → S k) : Keeps S a w' :=
  ⟨hg.os.trans h.os, hg.tape.trans h.tape, hg.output.trans h.output, Nat.le_trans h.size hg.size,
    fun k hk hn => (hg.block k (Nat.lt_of_lt_of_le hk h.size) fun e => hn (hr k e.symm hk)).trans (h.block k hk hn)⟩
theorem Keeps.ofBelow {S : Nat → Prop} {w w' : World} (h : Below w.heap.size w w') : Keeps S w w' := ⟨h.os, h.tape, h.output, h.size, fun k hk _ => h.block k hk⟩
theorem Keeps.toBelow {S : Nat → Prop} {B : Nat} {w w' : World} (h : Keeps S w w') (hB : B ≤ w.heap.size) (hs : ∀ k, S k → B ≤ k) : Below B w w' :=
  ⟨h.os, h.tape, h.output, h.size, fun k hk => h.block k (Nat.lt_of_lt_of_le hk hB) fun hS => absurd (hs k hS) (by omega)⟩
theorem Keeps.cell {S : Nat → Prop} {w w' : World} (h : Keeps S w w') {b o : Nat} (hb : b < w.heap.size) (hn : ¬ S b) : w'.cell? ⟨b, o, none⟩ = w.cell? ⟨b, o, none⟩ :=
  World.cell?_of_block (w := w) (h.block b hb hn)
theorem Keeps.frozen {S : Nat → Prop} {w w' : World} (h : Keeps S w w') {b o : Nat} (hb : b < w.heap.size) (hn : ¬ S b) : w'.frozen? ⟨b, o, none⟩ = w.frozen? ⟨b, o, none⟩ :=
  World.frozen?_of_block (w := w) (h.block b hb hn)

/-- A row of the call's own stays so, if its block is kept. -/
theorem ownsRow_keep {w w' : World} {base e size : Nat} {v : Value} {n : Nat} {xs : List Value} (h : w.ownsRow base e size v n xs) (hk : ∀ k, v.ownBlock = some k → w'.heap[k]? = w.heap[k]?) :
    w'.ownsRow base e size v n xs := by
  refine ⟨h.1, ?_⟩
  rcases h.2 with h0 | ⟨g, cap, cur, rfl, hb, hg, r⟩
  · exact .inl h0
  · exact .inr ⟨g, cap, cur, rfl, hb, (hk g rfl).trans hg, r⟩


theorem own_ltk {w : World} {base e size : Nat} {v : Value} {n : Nat} {xs : List Value} (h : w.ownsRow base e size v n xs) {k : Nat} (hk : v.ownBlock = some k) : k < w.heap.size := (h.lt k hk).2

theorem own_formk {w : World} {b e size : Nat} {v : Value} {n : Nat} {xs : List Value} (h : w.ownsRow b e size v n xs) : ∃ A c, v = .slice A n c := by
  rcases h.2 with ⟨e1, h0⟩ | ⟨g, cap, cur, e1, _⟩
  · exact ⟨none, 0, by rw [e1, h0]⟩
  · exact ⟨_, cap, e1⟩
theorem cell_ltk {w : World} {b o : Nat} {v : Value} (h : w.cell? ⟨b, o, none⟩ = some v) : b < w.heap.size := by
  rcases Nat.lt_or_ge b w.heap.size with h1 | h1
  · exact h1
  · have e : w.heap[b]? = none := Array.getElem?_eq_none h1
    unfold World.cell? at h
    simp [e] at h
theorem drew_keeps (w : World) (n : Nat) : Keeps (fun _ => False) w (w.drewN n) := ⟨rfl, rfl, rfl, Nat.le_refl _, fun _ _ _ => rfl⟩

/-- 'append' of elements of many cells onto a row of the call's own, and where the new row lies. -/
theorem run_append_atk {P : Program} (w : World) (base : Nat) (t ty e : TypeId) (i : TypeInfo) (z : Value) (size bytes : Nat) (ht : P.underlying t = some (.slice e)) (hi : P.info? e = some i) (hz : i.zero = some z)
    (hsize : i.size = size) (hby : i.bytes = bytes) (hzs : z.cells.size = size) (hsz : 0 < size)
    (v : Value) (n : Nat) (xs : List Value) (hown : w.ownsRow base e size v n xs)
    (a : Addr) (m c : Nat) (news : List Value) (hl : news.length = m * size) (hnews : ∀ j u, news[j]? = some u → w.cell? (a.add j) = some u) (h1 : ∀ u ∈ news, u.oneCell' = true)
    (h63 : n + m ≤ maxLen) (hbytes : (n + m) * bytes ≤ 140737488355328) (hbase : base ≤ w.heap.size) :
    ∃ v' w', (Builtin.append_ #[t, t] ty #[v, .slice (some a) m c]).run P w = .ok v' w' ∧ w'.ownsRow base e size v' (n + m) (xs ++ news) ∧ w.grownBy w' v.ownBlock ∧
      (v'.ownBlock = v.ownBlock ∨ v'.ownBlock = some w.heap.size) := by
  have hmi : news.length = m * i.size := by rw [hsize]; exact hl
  obtain ⟨v', w', hr, ho, hg, hn⟩ := run_append_own (P := P) (w := w) base t ty e i z size bytes ht hi hz hsize hby hzs hsz v n xs hown a m c news hl hnews h1 h63 hbytes hbase
  refine ⟨v', w', hr, ho, hg, ?_⟩
  have h63' : n + m ≤ 9223372036854775807 := by simp only [maxLen] at h63; omega
  rcases hown.2 with ⟨rfl, rfl⟩ | ⟨g, cap, cur, rfl, hbg, hgg, hnc, hcm, hcs, htake⟩
  · by_cases hm : m = 0
    · left
      rw [hn.2 ⟨rfl, hm⟩]
    · right
      rw [run_append_nil (P := P) w t ty e i z ht hi hz a m c news hmi hnews (by omega) (by omega) (by rw [hby]; simp only [Nat.zero_add] at hbytes; omega)] at hr
      cases hr
      rfl
  · by_cases hroom : n + m ≤ cap
    · left
      rw [run_append_room (P := P) w t ty e i ht hi g n cap cur hgg a m c news hmi hnews h1 hroom (by rw [hsize, hcs, hl, ← Nat.add_mul]; exact Nat.mul_le_mul_right _ hroom)] at hr
      cases hr
      rfl
    · right
      have holds : ∀ j u, xs[j]? = some u → w.cell? ((⟨g, 0, none⟩ : Addr).add j) = some u := hown.cells (g := g) rfl
      rw [run_append_grow (P := P) w t ty e i z ht hi hz ⟨g, 0, none⟩ n cap xs (by rw [hsize]; exact hown.1) holds a m c news hmi hnews (by omega) (by omega) (growslice_fits (by omega) (by rw [hby]; exact hbytes))] at hr
      cases hr
      rfl

theorem wpList_append_atk {P : Program} {w : World} {ops : Array Oper} {rest : List Oper} {o : Oper} {a : Act} {Q : Exit → Act → World → Prop} (hgd : o.guard = none) (s x : Operand) (t : TypeId)
    (ho : o.op = .call { callee := .builtin .append, args := #[s, x], argTypes := #[t, t] })
    (base : Nat) (e : TypeId) (i : TypeInfo) (z : Value) (size bytes : Nat) (ht : P.underlying t = some (.slice e)) (hi : P.info? e = some i) (hz : i.zero = some z)
    (hsize : i.size = size) (hby : i.bytes = bytes) (hzs : z.cells.size = size) (hsz : 0 < size)
    (v : Value) (n : Nat) (xs : List Value) (hs : a.eval s = v) (hown : w.ownsRow base e size v n xs)
    (ad : Addr) (m c : Nat) (news : List Value) (hx : a.eval x = .slice (some ad) m c) (hl : news.length = m * size) (hnews : ∀ j u, news[j]? = some u → w.cell? (ad.add j) = some u) (h1 : ∀ u ∈ news, u.oneCell' = true)
    (h63 : n + m ≤ 1000000) (hby2 : bytes ≤ 64) (hbase : base ≤ w.heap.size)
    (h : ∀ v' w', w'.ownsRow base e size v' (n + m) (xs ++ news) → w.grownBy w' v.ownBlock → (v'.ownBlock = v.ownBlock ∨ v'.ownBlock = some w.heap.size) → wpList P ops Q rest (a.put o.dst v') w') :
    wpList P ops Q (o :: rest) a w := by
  have hb : (n + m) * bytes ≤ 140737488355328 := Nat.le_trans (Nat.mul_le_mul h63 hby2) (by omega)
  obtain ⟨v', w', hrun, q1, q2, q3⟩ := run_append_atk (P := P) w base t o.type e i z size bytes ht hi hz hsize hby hzs hsz v n xs hown ad m c news hl hnews h1 (by unfold maxLen; omega) hb hbase
  exact Lib.wpList_append_run w hgd s x t t ho v _ hs hx v' w' hrun (h v' w' q1 q2 q3)

end Go.Proofs.YtgelggdgbmldiaaDoor

namespace Go.Proofs.YtgelggdgbmldiaaDoor
open Go.RowKit
set_option linter.unusedVariables false
set_option linter.unusedSimpArgs false

theorem u8_lt (c : UInt8) : c.toNat < 256 := c.toNat_lt

/-- A function that tells of each byte whether it is of a kind. -/
def Tells (f : Nat) (p : UInt8 → Bool) : Prop := ∀ (w : World) (c : UInt8), Calls Tryd.prog f #[.int .u8 (c.toNat : Int)] w fun e w' => e = .returned (.bool (p c)) ∧ Keeps (fun _ => False) w w'

set_option maxHeartbeats 1000000 in
theorem tells_dig : Tells 72 dig := fun w c => by
  have hc := u8_lt c
  by_cases h0 : 48 ≤ c.toNat
  · by_cases h1 : c.toNat ≤ 57
    · have hv : dig c = true := by unfold dig; simp only [Bool.and_eq_true, Bool.or_eq_true, decide_eq_true_eq, Bool.not_eq_true', decide_eq_false_iff_not]; omega
      rw [hv]
      clear hv
      generalize c.toNat = n at *
      have e0 : (48 : Int) ≤ (n : Int) := by omega
      have f0 : decide ((48 : Int) ≤ (n : Int)) = true := decide_eq_true e0
      have e1 : (n : Int) ≤ 57 := by omega
      have f1 : decide ((n : Int) ≤ 57) = true := decide_eq_true e1
      go_enter Tryd.func72, Tryd.ntmps72
      go_wp2
      go_ret
      exact ⟨rfl, Keeps.refl _ _⟩
    · have hv : dig c = false := Bool.eq_false_iff.2 (fun h => by unfold dig at h; simp only [Bool.and_eq_true, Bool.or_eq_true, decide_eq_true_eq, Bool.not_eq_true', decide_eq_false_iff_not] at h; omega)
      rw [hv]
      clear hv
      generalize c.toNat = n at *
      have e0 : (48 : Int) ≤ (n : Int) := by omega
      have f0 : decide ((48 : Int) ≤ (n : Int)) = true := decide_eq_true e0
      have e1 : ¬ (n : Int) ≤ 57 := by omega
      have f1 : decide ((n : Int) ≤ 57) = false := decide_eq_false e1
      go_enter Tryd.func72, Tryd.ntmps72
      go_wp2
      go_ret
      exact ⟨rfl, Keeps.refl _ _⟩
  · have hv : dig c = false := Bool.eq_false_iff.2 (fun h => by unfold dig at h; simp only [Bool.and_eq_true, Bool.or_eq_true, decide_eq_true_eq, Bool.not_eq_true', decide_eq_false_iff_not] at h; omega)
    rw [hv]
    clear hv
    generalize c.toNat = n at *
    have e0 : ¬ (48 : Int) ≤ (n : Int) := by omega
    have f0 : decide ((48 : Int) ≤ (n : Int)) = false := decide_eq_false e0
    go_enter Tryd.func72, Tryd.ntmps72
    go_wp2
    go_ret
    exact ⟨rfl, Keeps.refl _ _⟩

set_option maxHeartbeats 1000000 in
theorem tells_ltr : Tells 74 ltr := fun w c => by
  have hc := u8_lt c
  by_cases h0 : 97 ≤ c.toNat
  · by_cases h1 : c.toNat ≤ 122
    · have hv : ltr c = true := by unfold ltr; simp only [Bool.and_eq_true, Bool.or_eq_true, decide_eq_true_eq, Bool.not_eq_true', decide_eq_false_iff_not]; omega
      rw [hv]
      clear hv
      generalize c.toNat = n at *
      have e0 : (97 : Int) ≤ (n : Int) := by omega
      have f0 : decide ((97 : Int) ≤ (n : Int)) = true := decide_eq_true e0
      have e1 : (n : Int) ≤ 122 := by omega
      have f1 : decide ((n : Int) ≤ 122) = true := decide_eq_true e1
      go_enter Tryd.func74, Tryd.ntmps74
      go_wp2
      go_ret
      exact ⟨rfl, Keeps.refl _ _⟩
    · by_cases h2 : 65 ≤ c.toNat
      · by_cases h3 : c.toNat ≤ 90
        · exfalso; omega
        · have hv : ltr c = false := Bool.eq_false_iff.2 (fun h => by unfold ltr at h; simp only [Bool.and_eq_true, Bool.or_eq_true, decide_eq_true_eq, Bool.not_eq_true', decide_eq_false_iff_not] at h; omega)
          rw [hv]
          clear hv
          generalize c.toNat = n at *
          have e0 : (97 : Int) ≤ (n : Int) := by omega
          have f0 : decide ((97 : Int) ≤ (n : Int)) = true := decide_eq_true e0
          have e1 : ¬ (n : Int) ≤ 122 := by omega
          have f1 : decide ((n : Int) ≤ 122) = false := decide_eq_false e1
          have e2 : (65 : Int) ≤ (n : Int) := by omega
          have f2 : decide ((65 : Int) ≤ (n : Int)) = true := decide_eq_true e2
          have e3 : ¬ (n : Int) ≤ 90 := by omega
          have f3 : decide ((n : Int) ≤ 90) = false := decide_eq_false e3
          go_enter Tryd.func74, Tryd.ntmps74
          go_wp2
          go_ret
          exact ⟨rfl, Keeps.refl _ _⟩
      · exfalso; omega
  · by_cases h1 : 65 ≤ c.toNat
    · by_cases h2 : c.toNat ≤ 90
      · have hv : ltr c = true := by unfold ltr; simp only [Bool.and_eq_true, Bool.or_eq_true, decide_eq_true_eq, Bool.not_eq_true', decide_eq_false_iff_not]; omega
        rw [hv]
        clear hv
        generalize c.toNat = n at *
        have e0 : ¬ (97 : Int) ≤ (n : Int) := by omega
        have f0 : decide ((97 : Int) ≤ (n : Int)) = false := decide_eq_false e0
        have e1 : (65 : Int) ≤ (n : Int) := by omega
        have f1 : decide ((65 : Int) ≤ (n : Int)) = true := decide_eq_true e1
        have e2 : (n : Int) ≤ 90 := by omega
        have f2 : decide ((n : Int) ≤ 90) = true := decide_eq_true e2
        go_enter Tryd.func74, Tryd.ntmps74
        go_wp2
        go_ret
        exact ⟨rfl, Keeps.refl _ _⟩
      · have hv : ltr c = false := Bool.eq_false_iff.2 (fun h => by unfold ltr at h; simp only [Bool.and_eq_true, Bool.or_eq_true, decide_eq_true_eq, Bool.not_eq_true', decide_eq_false_iff_not] at h; omega)
        rw [hv]
        clear hv
        generalize c.toNat = n at *
        have e0 : ¬ (97 : Int) ≤ (n : Int) := by omega
        have f0 : decide ((97 : Int) ≤ (n : Int)) = false := decide_eq_false e0
        have e1 : (65 : Int) ≤ (n : Int) := by omega
        have f1 : decide ((65 : Int) ≤ (n : Int)) = true := decide_eq_true e1
        have e2 : ¬ (n : Int) ≤ 90 := by omega
        have f2 : decide ((n : Int) ≤ 90) = false := decide_eq_false e2
        go_enter Tryd.func74, Tryd.ntmps74
        go_wp2
        go_ret
        exact ⟨rfl, Keeps.refl _ _⟩
    · have hv : ltr c = false := Bool.eq_false_iff.2 (fun h => by unfold ltr at h; simp only [Bool.and_eq_true, Bool.or_eq_true, decide_eq_true_eq, Bool.not_eq_true', decide_eq_false_iff_not] at h; omega)
      rw [hv]
      clear hv
      generalize c.toNat = n at *
      have e0 : ¬ (97 : Int) ≤ (n : Int) := by omega
      have f0 : decide ((97 : Int) ≤ (n : Int)) = false := decide_eq_false e0
      have e1 : ¬ (65 : Int) ≤ (n : Int) := by omega
      have f1 : decide ((65 : Int) ≤ (n : Int)) = false := decide_eq_false e1
      go_enter Tryd.func74, Tryd.ntmps74
      go_wp2
      go_ret
      exact ⟨rfl, Keeps.refl _ _⟩

set_option maxHeartbeats 1000000 in
theorem tells_blk : Tells 43 blk := fun w c => by
  have hc := u8_lt c
  by_cases h0 : c.toNat = 32
  · have hv : blk c = true := by unfold blk; simp only [Bool.and_eq_true, Bool.or_eq_true, decide_eq_true_eq, Bool.not_eq_true', decide_eq_false_iff_not]; omega
    rw [hv]
    clear hv
    generalize c.toNat = n at *
    obtain rfl : n = 32 := by omega
    go_enter Tryd.func43, Tryd.ntmps43
    go_wp2
    go_ret
    exact ⟨rfl, Keeps.refl _ _⟩
  · by_cases h1 : c.toNat = 9
    · have hv : blk c = true := by unfold blk; simp only [Bool.and_eq_true, Bool.or_eq_true, decide_eq_true_eq, Bool.not_eq_true', decide_eq_false_iff_not]; omega
      rw [hv]
      clear hv
      generalize c.toNat = n at *
      obtain rfl : n = 9 := by omega
      go_enter Tryd.func43, Tryd.ntmps43
      go_wp2
      go_ret
      exact ⟨rfl, Keeps.refl _ _⟩
    · by_cases h2 : c.toNat = 13
      · have hv : blk c = true := by unfold blk; simp only [Bool.and_eq_true, Bool.or_eq_true, decide_eq_true_eq, Bool.not_eq_true', decide_eq_false_iff_not]; omega
        rw [hv]
        clear hv
        generalize c.toNat = n at *
        obtain rfl : n = 13 := by omega
        go_enter Tryd.func43, Tryd.ntmps43
        go_wp2
        go_ret
        exact ⟨rfl, Keeps.refl _ _⟩
      · by_cases h3 : c.toNat = 10
        · have hv : blk c = true := by unfold blk; simp only [Bool.and_eq_true, Bool.or_eq_true, decide_eq_true_eq, Bool.not_eq_true', decide_eq_false_iff_not]; omega
          rw [hv]
          clear hv
          generalize c.toNat = n at *
          obtain rfl : n = 10 := by omega
          go_enter Tryd.func43, Tryd.ntmps43
          go_wp2
          go_ret
          exact ⟨rfl, Keeps.refl _ _⟩
        · have hv : blk c = false := Bool.eq_false_iff.2 (fun h => by unfold blk at h; simp only [Bool.and_eq_true, Bool.or_eq_true, decide_eq_true_eq, Bool.not_eq_true', decide_eq_false_iff_not] at h; omega)
          rw [hv]
          clear hv
          generalize c.toNat = n at *
          have e0 : ((n : Int) == 32) = false := by simp; omega
          have f0 : ((n : Int) != 32) = true := by simp; omega
          have e1 : ((n : Int) == 9) = false := by simp; omega
          have f1 : ((n : Int) != 9) = true := by simp; omega
          have e2 : ((n : Int) == 13) = false := by simp; omega
          have f2 : ((n : Int) != 13) = true := by simp; omega
          have e3 : ((n : Int) == 10) = false := by simp; omega
          have f3 : ((n : Int) != 10) = true := by simp; omega
          go_enter Tryd.func43, Tryd.ntmps43
          go_wp2
          go_ret
          exact ⟨rfl, Keeps.refl _ _⟩

set_option maxHeartbeats 1000000 in
theorem tells_txc : Tells 108 txc := fun w c => by
  have hc := u8_lt c
  by_cases h0 : 32 ≤ c.toNat
  · by_cases h1 : c.toNat ≤ 126
    · by_cases h2 : c.toNat = 34
      · have hv : txc c = false := Bool.eq_false_iff.2 (fun h => by unfold txc at h; simp only [Bool.and_eq_true, Bool.or_eq_true, decide_eq_true_eq, Bool.not_eq_true', decide_eq_false_iff_not] at h; omega)
        rw [hv]
        clear hv
        generalize c.toNat = n at *
        obtain rfl : n = 34 := by omega
        go_enter Tryd.func108, Tryd.ntmps108
        go_wp2
        go_ret
        exact ⟨rfl, Keeps.refl _ _⟩
      · have hv : txc c = true := by unfold txc; simp only [Bool.and_eq_true, Bool.or_eq_true, decide_eq_true_eq, Bool.not_eq_true', decide_eq_false_iff_not]; omega
        rw [hv]
        clear hv
        generalize c.toNat = n at *
        have e0 : (32 : Int) ≤ (n : Int) := by omega
        have f0 : decide ((32 : Int) ≤ (n : Int)) = true := decide_eq_true e0
        have e1 : (n : Int) ≤ 126 := by omega
        have f1 : decide ((n : Int) ≤ 126) = true := decide_eq_true e1
        have e2 : ((n : Int) == 34) = false := by simp; omega
        have f2 : ((n : Int) != 34) = true := by simp; omega
        go_enter Tryd.func108, Tryd.ntmps108
        go_wp2
        go_ret
        exact ⟨rfl, Keeps.refl _ _⟩
    · have hv : txc c = false := Bool.eq_false_iff.2 (fun h => by unfold txc at h; simp only [Bool.and_eq_true, Bool.or_eq_true, decide_eq_true_eq, Bool.not_eq_true', decide_eq_false_iff_not] at h; omega)
      rw [hv]
      clear hv
      generalize c.toNat = n at *
      have e0 : (32 : Int) ≤ (n : Int) := by omega
      have f0 : decide ((32 : Int) ≤ (n : Int)) = true := decide_eq_true e0
      have e1 : ¬ (n : Int) ≤ 126 := by omega
      have f1 : decide ((n : Int) ≤ 126) = false := decide_eq_false e1
      go_enter Tryd.func108, Tryd.ntmps108
      go_wp2
      go_ret
      exact ⟨rfl, Keeps.refl _ _⟩
  · have hv : txc c = false := Bool.eq_false_iff.2 (fun h => by unfold txc at h; simp only [Bool.and_eq_true, Bool.or_eq_true, decide_eq_true_eq, Bool.not_eq_true', decide_eq_false_iff_not] at h; omega)
    rw [hv]
    clear hv
    generalize c.toNat = n at *
    have e0 : ¬ (32 : Int) ≤ (n : Int) := by omega
    have f0 : decide ((32 : Int) ≤ (n : Int)) = false := decide_eq_false e0
    go_enter Tryd.func108, Tryd.ntmps108
    go_wp2
    go_ret
    exact ⟨rfl, Keeps.refl _ _⟩

set_option maxHeartbeats 1000000 in
theorem tells_nmc : Tells 106 nmc := fun w c => by
  have L := Lib.hid (tells_ltr w c)
  cases hl : ltr c with
  | true =>
    have hv : nmc c = true := by unfold nmc; rw [hl]; rfl
    rw [hl] at L
    rw [hv]
    clear hv hl
    generalize c.toNat = n at *
    go_enter Tryd.func106, Tryd.ntmps106
    go_wp2_with fail
    refine L.out.mono ?_
    rintro e w1 ⟨rfl, k1⟩
    have K1 := Lib.hid k1
    clear k1
    go_wp2
    go_ret
    exact ⟨rfl, K1.out⟩
  | false =>
    rw [hl] at L
    have D : Hid (∀ w, Calls Tryd.prog 72 #[.int .u8 (c.toNat : Int)] w fun e w' => e = .returned (.bool (dig c)) ∧ Keeps (fun _ => False) w w') := fun w => tells_dig w c
    cases hd : dig c with
    | true =>
      have hv : nmc c = true := by unfold nmc; rw [hl, hd]; rfl
      rw [hd] at D
      rw [hv]
      clear hv hl hd
      generalize c.toNat = n at *
      go_enter Tryd.func106, Tryd.ntmps106
      go_wp2_with fail
      refine L.out.mono ?_
      rintro e w1 ⟨rfl, k1⟩
      have K1 := Lib.hid k1
      clear k1
      go_wp2_with fail
      refine (D.out w1).mono ?_
      rintro e w2 ⟨rfl, k2⟩
      have K2 := Lib.hid (K1.out.trans k2 (fun _ _ h => h))
      clear k2
      go_wp2
      go_ret
      exact ⟨rfl, K2.out⟩
    | false =>
      rw [hd] at D
      by_cases h95 : c.toNat = 95
      · have hv : nmc c = true := by unfold nmc; rw [hl, hd, decide_eq_true h95]; rfl
        rw [hv]
        clear hv hl hd
        generalize c.toNat = n at *
        subst h95
        go_enter Tryd.func106, Tryd.ntmps106
        go_wp2_with fail
        refine L.out.mono ?_
        rintro e w1 ⟨rfl, k1⟩
        have K1 := Lib.hid k1
        clear k1
        go_wp2_with fail
        refine (D.out w1).mono ?_
        rintro e w2 ⟨rfl, k2⟩
        have K2 := Lib.hid (K1.out.trans k2 (fun _ _ h => h))
        clear k2
        go_wp2
        go_ret
        exact ⟨rfl, K2.out⟩
      · have hv : nmc c = false := by unfold nmc; rw [hl, hd, decide_eq_false h95]; rfl
        rw [hv]
        clear hv hl hd
        generalize c.toNat = n at *
        have e95 : ((n : Int) == 95) = false := by simp; omega
        go_enter Tryd.func106, Tryd.ntmps106
        go_wp2_with fail
        refine L.out.mono ?_
        rintro e w1 ⟨rfl, k1⟩
        have K1 := Lib.hid k1
        clear k1
        go_wp2_with fail
        refine (D.out w1).mono ?_
        rintro e w2 ⟨rfl, k2⟩
        have K2 := Lib.hid (K1.out.trans k2 (fun _ _ h => h))
        clear k2
        go_wp2
        go_ret
        exact ⟨rfl, K2.out⟩

end Go.Proofs.YtgelggdgbmldiaaDoor
