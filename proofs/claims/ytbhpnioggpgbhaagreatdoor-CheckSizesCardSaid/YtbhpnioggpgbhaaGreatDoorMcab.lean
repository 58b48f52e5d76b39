/-
 Layer 1: what stays of tokens where a source is cut, shifted, or put together. Written by an AI agent.
 Layer 1: what tokens are: alone, put together again, and where they stand. Written by an AI agent.
-/
import Derived.Test.YtbhpnioggpgbhaaGreatDoorMcaa
namespace Go.Proofs.YtbhpnioggpgbhaaGreatDoor
set_option linter.unusedVariables false
set_option linter.unusedSimpArgs false
/-- How a source goes on. -/
theorem lexL_ind {P : List UInt8 → Nat → Prop} (hnil : ∀ p, P [] p) (hblk : ∀ c r p, blk c = true → P r (p + 1) → P (c :: r) p)
  (hend : ∀ c r p, blk c = false → isRem (c :: r) = true → runL (fun d => !decide (d = 10)) (c :: r) = (c :: r).length → P (c :: r) p)
  (hrem : ∀ c r p, blk c = false → isRem (c :: r) = true → ¬ runL (fun d => !decide (d = 10)) (c :: r) = (c :: r).length → P ((c :: r).drop (runL (fun d => !decide (d = 10)) (c :: r))) (p + runL (fun d => !decide (d = 10)) (c :: r)) → P (c :: r) p)
  (hbad : ∀ c r p, blk c = false → isRem (c :: r) = false → ¬ (firstL (c :: r)).2.2 = 0 → P (c :: r) p)
  (htok : ∀ c r p, blk c = false → isRem (c :: r) = false → (firstL (c :: r)).2.2 = 0 → P ((c :: r).drop (firstL (c :: r)).2.1) (p + (firstL (c :: r)).2.1) → P (c :: r) p) (l : List UInt8) (p : Nat) : P l p := by
 obtain ⟨n, hn⟩ : ∃ n, n = l.length := ⟨_, rfl⟩
 induction n using Nat.strongRecOn generalizing l p with
 | ind n ih =>
  cases l with
  | nil => exact hnil p
  | cons c r =>
   rw [List.length_cons] at hn
   cases h0 : blk c with
   | true => exact hblk c r p h0 (ih r.length (by omega) r _ rfl)
   | false =>
    cases h1 : isRem (c :: r) with
    | true =>
     have h2 := rem_size _ h1
     by_cases h3 : runL (fun d => !decide (d = 10)) (c :: r) = (c :: r).length
     ·exact hend c r p h0 h1 h3
     ·exact hrem c r p h0 h1 h3 (ih _ (by rw [List.length_drop, List.length_cons]; omega) _ _ rfl)
    | false =>
     by_cases h3 : (firstL (c :: r)).2.2 = 0
     ·have h4 := first_size (c :: r) (by simp) h3
      exact htok c r p h0 h1 h3 (ih _ (by rw [List.length_drop, List.length_cons]; omega) _ _ rfl)
     ·exact hbad c r p h0 h1 h3
theorem isTwo_take (l : List UInt8) (n : Nat) (hn : 2 ≤ n) : isTwo (l.take n) = isTwo l := by
 rw [Bool.eq_iff_iff]
 unfold isTwo
 rw [List.any_eq_true, List.any_eq_true]
 constructor
 ·rintro ⟨t, ht, hp⟩
  exact ⟨t, ht, List.isPrefixOf_iff_prefix.2 ((List.isPrefixOf_iff_prefix.1 hp).trans (List.take_prefix _ _))⟩
 ·rintro ⟨t, ht, hp⟩
  have h5 : t.length = 2 := by
   simp only [twosL, List.mem_cons, List.not_mem_nil, or_false] at ht
   rcases ht with rfl | rfl | rfl | rfl | rfl <;> rfl
  exact ⟨t, ht, List.isPrefixOf_iff_prefix.2 (List.prefix_take_iff.2 ⟨List.isPrefixOf_iff_prefix.1 hp, by omega⟩)⟩
theorem isTwo_of_take {l : List UInt8} {n : Nat} (h : isTwo (l.take n) = true) : isTwo l = true := by
 unfold isTwo at h ⊢
 rw [List.any_eq_true] at h ⊢
 obtain ⟨t, ht, hp⟩ := h
 exact ⟨t, ht, List.isPrefixOf_iff_prefix.2 ((List.isPrefixOf_iff_prefix.1 hp).trans (List.take_prefix _ _))⟩
theorem isRem_of_take {l : List UInt8} {n : Nat} (h : isRem (l.take n) = true) : isRem l = true :=
 List.isPrefixOf_iff_prefix.2 ((List.isPrefixOf_iff_prefix.1 h).trans (List.take_prefix _ _))
theorem isRem_take {l : List UInt8} {n : Nat} (hn : 2 ≤ n) (h : isRem l = true) : isRem (l.take n) = true :=
 List.isPrefixOf_iff_prefix.2 (List.prefix_take_iff.2 ⟨List.isPrefixOf_iff_prefix.1 h, hn⟩)
/-- A token is the same where the source is cut behind it. -/
theorem first_take (l : List UInt8) (n : Nat) (hl : l ≠ []) (h : (firstL l).2.2 = 0) (hn : (firstL l).2.1 ≤ n) : firstL (l.take n) = firstL l := by
 have hs := first_size l hl h
 obtain ⟨c, r, rfl⟩ := List.exists_cons_of_ne_nil hl
 obtain ⟨m, rfl⟩ : ∃ m, n = m + 1 := ⟨n - 1, by omega⟩
 rw [List.take_succ_cons]
 rw [firstL_cons] at h hn hs
 rw [firstL_cons, firstL_cons]
 by_cases h1 : dig c = true
 ·rw [if_pos h1] at h hn hs ⊢
  rw [if_pos h1]
  unfold numberL at h hn ⊢
  split at h
  ·rename_i hc
   rw [if_pos hc] at hn
   have hn : runL dig (c :: r) ≤ m + 1 := hn
   have e := runL_take dig (c :: r) (m + 1) hn
   rw [List.take_succ_cons] at e
   rw [e, ← List.take_succ_cons, List.take_take, Nat.min_eq_left hn]
  ·cases h
 ·rw [if_neg h1] at h hn hs ⊢
  rw [if_neg h1]
  by_cases h2 : ltr c = true
  ·rw [if_pos h2] at h hn hs ⊢
   rw [if_pos h2]
   unfold nameL at h hn ⊢
   have hn : runL nmc (c :: r) ≤ m + 1 := by
    split at h
    ·rename_i hc; rw [if_pos hc] at hn; exact hn
    ·rename_i hc
     rw [if_neg hc] at hn
     split at h
     ·cases h
     ·rename_i hc; rw [if_neg hc] at hn; exact hn
   have e := runL_take nmc (c :: r) (m + 1) hn
   rw [List.take_succ_cons] at e
   rw [e, ← List.take_succ_cons, List.take_take, Nat.min_eq_left hn]
  ·rw [if_neg h2] at h hn hs ⊢
   rw [if_neg h2]
   by_cases h3 : c = 34
   ·rw [if_pos h3] at h hn hs ⊢
    rw [if_pos h3]
    unfold textL at h hn ⊢
    split at h
    ·rename_i hc
     rw [if_pos hc] at hn
     split at h
     ·cases h
     ·rename_i hd
      rw [if_neg hd] at hn
      have hn : runL txc r + 2 ≤ m + 1 := hn
      have e := runL_take txc r m (by omega)
      rw [e, List.getElem?_take, if_pos (show runL txc r < m by omega)]
    ·cases h
   ·rw [if_neg h3] at h hn hs ⊢
    rw [if_neg h3]
    rw [signL_cons] at h hn
    rw [signL_cons, signL_cons]
    by_cases h4 : isTwo (c :: r) = true
    ·rw [if_pos h4] at hn
     have hn : 2 ≤ m + 1 := hn
     have e := isTwo_take (c :: r) (m + 1) hn
     rw [List.take_succ_cons] at e
     rw [e]
    ·rw [if_neg h4]
     rw [if_neg (fun h => h4 (isTwo_of_take (n := m + 1) (by rw [List.take_succ_cons]; exact h)))]
theorem first_errs (l : List UInt8) (h : ¬ (firstL l).2.2 = 0) : (firstL l).2.2 = 10 ∨ (firstL l).2.2 = 11 ∨ (firstL l).2.2 = 12 ∨ (firstL l).2.2 = 13 ∨ (firstL l).2.2 = 4 := by
 unfold firstL numberL nameL textL signL at h ⊢
 repeat' split
 all_goals simp_all
/-- Where a source fails, it has tokens ahead. -/
theorem lexL_cut (l : List UInt8) (p : Nat) : ∀ q e, (lexL l p).2 = some (q, e) → p ≤ q ∧ q < p + l.length ∧ (lexL (l.take (q - p)) p).2 = none ∧ (e = 10 ∨ e = 11 ∨ e = 12 ∨ e = 13 ∨ e = 4) := by
 refine lexL_ind (P := fun l p => ∀ q e, (lexL l p).2 = some (q, e) → p ≤ q ∧ q < p + l.length ∧ (lexL (l.take (q - p)) p).2 = none ∧ (e = 10 ∨ e = 11 ∨ e = 12 ∨ e = 13 ∨ e = 4)) ?_ ?_ ?_ ?_ ?_ ?_ l p
 ·intro p q e h
  rw [lexL_nil] at h
  cases h
 ·intro c r p h ih q e hq
  rw [lexL_blank h] at hq
  obtain ⟨h1, h2, h3, h4⟩ := ih q e hq
  refine ⟨by omega, by rw [List.length_cons]; omega, ?_, h4⟩
  obtain ⟨m, hm⟩ : ∃ m, q - p = m + 1 := ⟨q - p - 1, by omega⟩
  rw [hm, List.take_succ_cons, lexL_blank h, ← show q - (p + 1) = m by omega]
  exact h3
 ·intro c r p h h1 h2 q e hq
  rw [lexL_rem_end h h1 h2] at hq
  cases hq
 ·intro c r p h h1 h2 ih q e hq
  rw [lexL_rem h h1 h2] at hq
  obtain ⟨k1, k2, k3, k4⟩ := ih q e hq
  have hz := rem_size _ h1
  have hle := runL_le (fun d => !decide (d = 10)) (c :: r)
  obtain ⟨z, hzz⟩ : ∃ z, z = runL (fun d => !decide (d = 10)) (c :: r) := ⟨_, rfl⟩
  rw [← hzz] at h2 k1 k2 k3 hz hle
  rw [List.length_drop] at k2
  refine ⟨by omega, by omega, ?_, k4⟩
  obtain ⟨m, hm⟩ : ∃ m, q - p = m + 1 := ⟨q - p - 1, by omega⟩
  have h1' : isRem (c :: r.take m) = true := by rw [← List.take_succ_cons]; exact isRem_take (by omega) h1
  have e := runL_take (fun d => !decide (d = 10)) (c :: r) (m + 1) (by omega)
  rw [List.take_succ_cons, ← hzz] at e
  rw [hm, List.take_succ_cons]
  by_cases hlast : z = (c :: r.take m).length
  ·rw [lexL_rem_end h h1' (by rw [e]; exact hlast)]
  ·rw [lexL_rem h h1' (by rw [e]; exact hlast), e]
   have : (c :: r.take m).drop z = ((c :: r).drop z).take (q - (p + z)) := by
    rw [← List.take_succ_cons, List.drop_take]
    congr 1
    omega
   rw [this]
   exact k3
 ·intro c r p h h1 h2 q e hq
  rw [lexL_bad h h1 h2] at hq
  obtain ⟨rfl, rfl⟩ : p = q ∧ (firstL (c :: r)).2.2 = e := by
   have := Option.some.inj hq
   exact ⟨congrArg Prod.fst this, congrArg Prod.snd this⟩
  refine ⟨Nat.le_refl _, by rw [List.length_cons]; omega, ?_, first_errs _ h2⟩
  rw [Nat.sub_self]
  rfl
 ·intro c r p h h1 h2 ih q e hq
  rw [lexL_tok h h1 h2] at hq
  obtain ⟨k1, k2, k3, k4⟩ := ih q e hq
  have hz := first_size (c :: r) (by simp) h2
  obtain ⟨m, hm⟩ : ∃ m, q - p = m + 1 := ⟨q - p - 1, by omega⟩
  have hf := first_take (c :: r) (m + 1) (by simp) h2 (by omega)
  rw [List.take_succ_cons] at hf
  have h1' : isRem (c :: r.take m) = false := by
   cases hh : isRem (c :: r.take m) with
   | false => rfl
   | true =>
    rw [← List.take_succ_cons] at hh
    rw [isRem_of_take hh] at h1
    cases h1
  rw [List.length_drop] at k2
  refine ⟨by omega, by omega, ?_, k4⟩
  rw [hm, List.take_succ_cons, lexL_tok h h1' (by rw [hf]; exact h2), hf]
  have : (c :: r.take m).drop (firstL (c :: r)).2.1 = ((c :: r).drop (firstL (c :: r)).2.1).take (q - (p + (firstL (c :: r)).2.1)) := by
   rw [← List.take_succ_cons, List.drop_take]
   congr 1
   omega
  rw [this]
  exact k3
end Go.Proofs.YtbhpnioggpgbhaaGreatDoor

namespace Go.Proofs.YtbhpnioggpgbhaaGreatDoor
set_option linter.unusedVariables false
set_option linter.unusedSimpArgs false
/-- A token's bytes. -/
def tokB (t : Tok) : List UInt8 := if t.k = 2 then 34 :: (t.x ++ [34]) else t.x
/-- What follows does not belong to it. -/
def Apart (rest : List UInt8) : Prop := rest = [] ∨ ∃ r, rest = 32 :: r
structure GoodTok (t : Tok) : Prop where
 ne : tokB t ≠ []
 first : ∀ rest, Apart rest → firstL (tokB t ++ rest) = (t.k, (tokB t).length, 0)
 nblk : ∀ c r, tokB t = c :: r → blk c = false
 nrem : ∀ rest, Apart rest → isRem (tokB t ++ rest) = false
 said : saidL t.k (tokB t) = t.x
 kind : t.k = 1 ∨ t.k = 2 ∨ t.k = 3 ∨ t.k = 4 ∨ t.k = 5
 word : t.k = 2 ∨ (t.k = 4 ↔ isWord t.x = true)
theorem run_apart (p : UInt8 → Bool) (hp : p 32 = false) {rest : List UInt8} (h : Apart rest) : runL p rest = 0 := by
 rcases h with rfl | ⟨r, rfl⟩
 ·rfl
 ·exact runL_cons_false p _ _ hp
theorem rem_head {c : UInt8} {r : List UInt8} (h : isRem (c :: r) = true) : c = 47 := by
 obtain ⟨t, e⟩ := List.isPrefixOf_iff_prefix.1 h
 have := congrArg List.head? e
 simp at this
 exact this.symm
theorem word_head {l : List UInt8} (h : isWord l = true) : ∃ c r, l = c :: r ∧ ltr c = true := by
 unfold isWord at h
 rw [List.contains_iff_mem] at h
 simp only [wordsL, List.mem_cons, List.not_mem_nil, or_false] at h
 rcases h with rfl | rfl | rfl | rfl | rfl | rfl | rfl | rfl | rfl | rfl | rfl | rfl | rfl | rfl | rfl | rfl <;> exact ⟨_, _, rfl, by decide⟩
theorem good_number {c : UInt8} {r : List UInt8} (p : Nat) (h0 : blk c = false) (h1 : dig c = true) (he : (numberL (c :: r)).2.2 = 0) :
  GoodTok ⟨1, (c :: r).take (runL dig (c :: r)), p⟩ ∧ numberL (c :: r) = (1, runL dig (c :: r), 0) := by
 have hr : runL dig (c :: r) = runL dig r + 1 := by show (if dig c then _ else 0) = _; rw [if_pos h1]
 have hall := runL_all dig (c :: r)
 have hle := runL_le dig (c :: r)
 unfold numberL at he ⊢
 split at he
 ·rename_i hc
  rw [if_pos hc]
  refine ⟨?_, rfl⟩
  obtain ⟨z, hz⟩ : ∃ z, z = runL dig (c :: r) := ⟨_, rfl⟩
  rw [← hz] at hr hall hle hc ⊢
  obtain ⟨b, hb⟩ : ∃ b, b = (c :: r).take z := ⟨_, rfl⟩
  have hbl : b.length = z := by rw [hb, List.length_take]; omega
  have hbc : ∃ b', b = c :: b' := ⟨r.take (runL dig r), by rw [hb, hr, List.take_succ_cons]⟩
  rw [← hb] at hall hc ⊢
  obtain ⟨b', hb'⟩ := hbc
  have ht : tokB ⟨1, b, p⟩ = b := rfl
  have hc47 : c ≠ 47 := fun e => by rw [e] at h1; revert h1; decide
  refine ⟨by rw [ht, hb']; simp, fun rest hrest => ?_, fun c' r' e => ?_, fun rest hrest => ?_, ?_, .inl rfl, .inr ⟨(fun h => by cases h), fun h => ?_⟩⟩
  ·rw [ht]
   have hrun : runL dig (b ++ rest) = z := by rw [runL_append dig b rest hall, run_apart dig (by decide) hrest, hbl]; rfl
   unfold firstL
   rw [show (b ++ rest).headD 0 = c by rw [hb']; rfl, if_pos h1]
   unfold numberL
   rw [hrun, List.take_left' hbl, if_pos hc, hbl]
  ·rw [ht, hb'] at e
   injection e with e1 e2
   rw [← e1]; exact h0
  ·rw [ht, hb']
   cases h : isRem (c :: b' ++ rest) with
   | false => rfl
   | true => exact absurd (rem_head h) hc47
  ·rfl
  ·obtain ⟨d, q, e, hd⟩ := word_head h
   have e : b = d :: q := e
   rw [hb'] at e
   injection e with e1 e2
   rw [← e1] at hd
   exfalso
   unfold ltr at hd; unfold dig at h1
   simp at hd h1
   omega
 ·cases he
theorem good_name {c : UInt8} {r : List UInt8} (p : Nat) (h0 : blk c = false) (h1 : dig c = false) (h2 : ltr c = true) (he : (nameL (c :: r)).2.2 = 0) :
  GoodTok ⟨(nameL (c :: r)).1, (c :: r).take (runL nmc (c :: r)), p⟩ ∧ (nameL (c :: r)).2.1 = runL nmc (c :: r) ∧ ((nameL (c :: r)).1 = 3 ∨ (nameL (c :: r)).1 = 4) := by
 have hn : nmc c = true := by unfold nmc; rw [h2]; rfl
 have hr : runL nmc (c :: r) = runL nmc r + 1 := by show (if nmc c then _ else 0) = _; rw [if_pos hn]
 have hall := runL_all nmc (c :: r)
 have hle := runL_le nmc (c :: r)
 obtain ⟨z, hz⟩ : ∃ z, z = runL nmc (c :: r) := ⟨_, rfl⟩
 obtain ⟨b, hb⟩ : ∃ b, b = (c :: r).take z := ⟨_, rfl⟩
 have key : ∀ k, nameL (c :: r) = (k, z, 0) → (k = 3 ∨ k = 4) → (k = 4 ↔ isWord b = true) → (k = 3 → ¬ 8 < z) → GoodTok ⟨k, b, p⟩ := by
  intro k hk hk2 hk3 hk4
  rw [← hz] at hr hall hle
  have hbl : b.length = z := by rw [hb, List.length_take]; omega
  have hbc : ∃ b', b = c :: b' := ⟨r.take (runL nmc r), by rw [hb, hr, List.take_succ_cons]⟩
  rw [← hb] at hall
  obtain ⟨b', hb'⟩ := hbc
  have hk2' : ¬ k = 2 := by omega
  have ht : tokB ⟨k, b, p⟩ = b := by unfold tokB; rw [if_neg hk2']
  have hc47 : c ≠ 47 := fun e => by rw [e] at h2; revert h2; decide
  refine ⟨by rw [ht, hb']; simp, fun rest hrest => ?_, fun c' r' e => ?_, fun rest hrest => ?_, ?_, by show k = 1 ∨ k = 2 ∨ k = 3 ∨ k = 4 ∨ k = 5; omega, .inr hk3⟩
  ·rw [ht]
   have hrun : runL nmc (b ++ rest) = z := by rw [runL_append nmc b rest hall, run_apart nmc (by decide) hrest, hbl]; rfl
   unfold firstL
   rw [show (b ++ rest).headD 0 = c by rw [hb']; rfl, if_neg (by rw [h1]; decide), if_pos h2]
   unfold nameL
   rw [hrun, List.take_left' hbl, hbl]
   rcases hk2 with rfl | rfl
   ·rw [if_neg (fun h => by have := hk3.2 h; omega), if_neg (hk4 rfl)]
   ·rw [if_pos (hk3.1 rfl)]
  ·rw [ht, hb'] at e
   injection e with e1 e2
   rw [← e1]; exact h0
  ·rw [ht, hb']
   cases h : isRem (c :: b' ++ rest) with
   | false => rfl
   | true => exact absurd (rem_head h) hc47
  ·rw [ht]; unfold saidL; rw [if_neg hk2']
 unfold nameL at he ⊢
 rw [← hz, ← hb] at he ⊢
 split at he
 ·rename_i hc
  rw [if_pos hc]
  exact ⟨key 4 (by unfold nameL; rw [← hz, ← hb, if_pos hc]) (.inr rfl) ⟨fun _ => hc, fun _ => rfl⟩ (fun h => by cases h), rfl, .inr rfl⟩
 ·rename_i hc
  rw [if_neg hc]
  split at he
  ·cases he
  ·rename_i hd
   rw [if_neg hd]
   exact ⟨key 3 (by unfold nameL; rw [← hz, ← hb, if_neg hc, if_neg hd]) (.inl rfl) ⟨(fun h => by cases h), fun h => absurd h hc⟩ (fun _ => hd), rfl, .inl rfl⟩
theorem good_text {r : List UInt8} (p : Nat) (he : (textL r).2.2 = 0) :
  GoodTok ⟨2, r.take (runL txc r), p⟩ ∧ textL r = (2, runL txc r + 2, 0) ∧ (34 :: r).take (runL txc r + 2) = 34 :: (r.take (runL txc r) ++ [34]) := by
 have hall := runL_all txc r
 obtain ⟨z, hz⟩ : ∃ z, z = runL txc r := ⟨_, rfl⟩
 unfold textL at he ⊢
 rw [← hz] at he hall ⊢
 split at he
 ·rename_i hc
  rw [if_pos hc]
  split at he
  ·cases he
  ·rename_i hd
   rw [if_neg hd]
   obtain ⟨hlt, hg⟩ := List.getElem?_eq_some_iff.1 hc
   have htk : (34 :: r).take (z + 2) = 34 :: (r.take z ++ [34]) := by
    rw [List.take_succ_cons, List.take_succ_eq_append_getElem hlt, hg]
   obtain ⟨b, hb⟩ : ∃ b, b = r.take z := ⟨_, rfl⟩
   have hbl : b.length = z := by rw [hb, List.length_take]; omega
   rw [← hb] at hall htk ⊢
   refine ⟨?_, rfl, htk⟩
   have ht : tokB ⟨2, b, p⟩ = 34 :: (b ++ [34]) := rfl
   refine ⟨by rw [ht]; simp, fun rest hrest => ?_, fun c' r' e => ?_, fun rest hrest => ?_, ?_, .inr (.inl rfl), .inl rfl⟩
   ·rw [ht]
    have hrun : runL txc (b ++ [34] ++ rest) = z := by
     rw [List.append_assoc, runL_append txc b _ hall, hbl]
     show z + runL txc (34 :: rest) = z
     rw [runL_cons_false _ _ _ (by decide)]
     rfl
    show firstL ((34 : UInt8) :: (b ++ [34] ++ rest)) = _
    rw [firstL_cons, if_neg (by decide), if_neg (by decide), if_pos rfl]
    unfold textL
    rw [hrun, if_pos (by rw [List.append_assoc, List.getElem?_append_right (by omega), hbl]; simp), if_neg hd, List.length_cons, List.length_append, hbl]
    rfl
   ·rw [ht] at e
    injection e with e1 e2
    rw [← e1]; decide
   ·rw [ht]
    cases h : isRem (34 :: (b ++ [34]) ++ rest) with
    | false => rfl
    | true => have := rem_head h; revert this; decide
   ·rw [ht]
    unfold saidL
    rw [if_pos rfl]
    simp [List.take_succ_cons, hbl]
 ·cases he
theorem good_sign {c : UInt8} {r : List UInt8} (p : Nat) (h0 : blk c = false) (hrem : isRem (c :: r) = false) (h1 : dig c = false) (h2 : ltr c = false) (h3 : ¬ c = 34) (he : (signL (c :: r)).2.2 = 0) :
  GoodTok ⟨5, (c :: r).take (signL (c :: r)).2.1, p⟩ ∧ (signL (c :: r)).1 = 5 := by
 rw [signL_cons] at he ⊢
 by_cases h4 : isTwo (c :: r) = true
 ·rw [if_pos h4]
  refine ⟨?_, rfl⟩
  have h5 := h4
  unfold isTwo at h5
  rw [List.any_eq_true] at h5
  obtain ⟨t, ht, hp⟩ := h5
  have ht' := ht
  obtain ⟨s, hs⟩ := List.isPrefixOf_iff_prefix.1 hp
  have hl : t.length = 2 := by
   simp only [twosL, List.mem_cons, List.not_mem_nil, or_false] at ht
   rcases ht with rfl | rfl | rfl | rfl | rfl <;> rfl
  show GoodTok ⟨5, (c :: r).take 2, p⟩
  have hb : (c :: r).take 2 = t := by rw [← hs, List.take_left' hl]
  rw [hb]
  have htok : tokB ⟨5, t, p⟩ = t := rfl
  have hw : isWord t = false ∧ t ≠ [] ∧ (∀ c' r', t = c' :: r' → blk c' = false ∧ c' ≠ 47 ∧ dig c' = false ∧ ltr c' = false ∧ ¬ c' = 34) := by
   simp only [twosL, List.mem_cons, List.not_mem_nil, or_false] at ht'
   rcases ht' with rfl | rfl | rfl | rfl | rfl <;> exact ⟨by decide, by simp, fun c' r' e => by injection e with e1 _; rw [← e1]; decide⟩
  obtain ⟨c', r', hcr⟩ := List.exists_cons_of_ne_nil hw.2.1
  obtain ⟨q0, q1, q2, q3, q4⟩ := hw.2.2 c' r' hcr
  refine ⟨hw.2.1, fun rest hrest => ?_, fun c' r' e => (hw.2.2 c' r' e).1, fun rest hrest => ?_, rfl, .inr (.inr (.inr (.inr rfl))), .inr ⟨(fun h => by cases h), fun h => by
   rw [show isWord (({ k := 5, x := t, p := p } : Tok).x) = isWord t from rfl, hw.1] at h; cases h⟩⟩
  ·rw [htok]
   unfold firstL
   rw [show (t ++ rest).headD 0 = c' by rw [hcr]; rfl, if_neg (by rw [q2]; decide), if_neg (by rw [q3]; decide), if_neg q4]
   unfold signL
   rw [if_pos (by unfold isTwo; rw [List.any_eq_true]; exact ⟨t, ht, List.isPrefixOf_iff_prefix.2 ⟨rest, rfl⟩⟩), hl]
  ·rw [htok]
   cases h : isRem (t ++ rest) with
   | false => rfl
   | true =>
    rw [hcr, List.cons_append] at h
    exact absurd (rem_head h) q1
 ·rw [if_neg h4] at he ⊢
  split at he
  ·rename_i h5
   rw [if_pos h5]
   refine ⟨?_, rfl⟩
   show GoodTok ⟨5, [c], p⟩
   have htok : tokB ⟨5, [c], p⟩ = [c] := rfl
   refine ⟨by rw [htok]; simp, fun rest hrest => ?_, fun c' r' e => ?_, fun rest hrest => ?_, rfl, .inr (.inr (.inr (.inr rfl))), .inr ⟨(fun h => by cases h), fun h => ?_⟩⟩
   ·rw [htok]
    show firstL (c :: rest) = (5, 1, 0)
    unfold firstL
    rw [List.headD_cons, if_neg (by rw [h1]; decide), if_neg (by rw [h2]; decide), if_neg h3]
    unfold signL
    rw [if_neg, List.headD_cons, if_pos h5]
    intro hh
    unfold isTwo at hh
    rw [List.any_eq_true] at hh
    obtain ⟨t, ht, hp⟩ := hh
    obtain ⟨s, hs⟩ := List.isPrefixOf_iff_prefix.1 hp
    simp only [twosL, List.mem_cons, List.not_mem_nil, or_false] at ht
    rcases hrest with rfl | ⟨q, rfl⟩ <;> rcases ht with rfl | rfl | rfl | rfl | rfl <;> simp at hs
   ·rw [htok] at e
    injection e with e1 _
    rw [← e1]; exact h0
   ·rw [htok]
    cases h : isRem ([c] ++ rest) with
    | false => rfl
    | true =>
     obtain ⟨s, hs⟩ := List.isPrefixOf_iff_prefix.1 h
     rcases hrest with rfl | ⟨q, rfl⟩ <;> simp at hs
   ·obtain ⟨d, q, e, hd⟩ := word_head h
    injection e with e1 _
    rw [← e1, h2] at hd
    cases hd
  ·cases he
/-- A token that a source begins with. -/
theorem first_good {c : UInt8} {r : List UInt8} (p : Nat) (h0 : blk c = false) (hrem : isRem (c :: r) = false) (he : (firstL (c :: r)).2.2 = 0) :
  GoodTok ⟨(firstL (c :: r)).1, saidL (firstL (c :: r)).1 ((c :: r).take (firstL (c :: r)).2.1), p⟩ ∧ tokB ⟨(firstL (c :: r)).1, saidL (firstL (c :: r)).1 ((c :: r).take (firstL (c :: r)).2.1), p⟩ = (c :: r).take (firstL (c :: r)).2.1 := by
 by_cases h1 : dig c = true
 ·have e : firstL (c :: r) = numberL (c :: r) := by unfold firstL; rw [List.headD_cons, if_pos h1]
  rw [e] at he ⊢
  obtain ⟨g, e2⟩ := good_number p h0 h1 he
  rw [e2]
  exact ⟨g, rfl⟩
 have h1 : dig c = false := by simpa using h1
 by_cases h2 : ltr c = true
 ·have e : firstL (c :: r) = nameL (c :: r) := by unfold firstL; rw [List.headD_cons, if_neg (by rw [h1]; decide), if_pos h2]
  rw [e] at he ⊢
  obtain ⟨g, e2, e3⟩ := good_name p h0 h1 h2 he
  rw [e2]
  obtain ⟨k, hk⟩ : ∃ k, k = (nameL (c :: r)).1 := ⟨_, rfl⟩
  rw [← hk] at g e3 ⊢
  have hk2 : ¬ k = 2 := by omega
  rw [show saidL k ((c :: r).take (runL nmc (c :: r))) = (c :: r).take (runL nmc (c :: r)) by unfold saidL; rw [if_neg hk2]]
  exact ⟨g, by unfold tokB; rw [if_neg hk2]⟩
 have h2 : ltr c = false := by simpa using h2
 by_cases h3 : c = 34
 ·subst h3
  have e : firstL (34 :: r) = textL r := by unfold firstL; rw [List.headD_cons, if_neg (by decide), if_neg (by decide), if_pos rfl]; rfl
  rw [e] at he ⊢
  obtain ⟨g, e2, e3⟩ := good_text p he
  rw [e2]
  show GoodTok ⟨2, saidL 2 ((34 :: r).take (runL txc r + 2)), p⟩ ∧ tokB ⟨2, saidL 2 ((34 :: r).take (runL txc r + 2)), p⟩ = (34 :: r).take (runL txc r + 2)
  rw [e3]
  have hs : saidL 2 (34 :: (r.take (runL txc r) ++ [34])) = r.take (runL txc r) := g.said
  rw [hs]
  exact ⟨g, rfl⟩
 ·have e : firstL (c :: r) = signL (c :: r) := by unfold firstL; rw [List.headD_cons, if_neg (by rw [h1]; decide), if_neg (by rw [h2]; decide), if_neg h3]
  rw [e] at he ⊢
  obtain ⟨g, e2⟩ := good_sign p h0 hrem h1 h2 h3 he
  rw [e2]
  exact ⟨g, rfl⟩
/-- All tokens but the last one. -/
theorem lexL_good (l : List UInt8) (p : Nat) : (lexL l p).2 = none → ∃ init, (lexL l p).1 = init ++ [⟨0, [], p + l.length⟩] ∧ ∀ t ∈ init, GoodTok t := by
 refine lexL_ind (P := fun l p => (lexL l p).2 = none → ∃ init, (lexL l p).1 = init ++ [⟨0, [], p + l.length⟩] ∧ ∀ t ∈ init, GoodTok t) ?_ ?_ ?_ ?_ ?_ ?_ l p
 ·exact fun p _ => ⟨[], rfl, fun t h => by cases h⟩
 ·intro c r p h ih hn
  rw [lexL_blank h] at hn ⊢
  obtain ⟨i, h1, h2⟩ := ih hn
  exact ⟨i, by rw [h1, List.length_cons, show p + 1 + r.length = p + (r.length + 1) by omega], h2⟩
 ·intro c r p h h1 h2 hn
  rw [lexL_rem_end h h1 h2]
  exact ⟨[], rfl, fun t h => by cases h⟩
 ·intro c r p h h1 h2 ih hn
  rw [lexL_rem h h1 h2] at hn ⊢
  obtain ⟨i, k1, k2⟩ := ih hn
  have hle := runL_le (fun d => !decide (d = 10)) (c :: r)
  exact ⟨i, by rw [k1, List.length_drop, show p + runL (fun d => !decide (d = 10)) (c :: r) + ((c :: r).length - runL (fun d => !decide (d = 10)) (c :: r)) = p + (c :: r).length by omega], k2⟩
 ·intro c r p h h1 h2 hn
  rw [lexL_bad h h1 h2] at hn
  cases hn
 ·intro c r p h h1 h2 ih hn
  rw [lexL_tok h h1 h2] at hn ⊢
  obtain ⟨i, k1, k2⟩ := ih hn
  have hz := first_size (c :: r) (by simp) h2
  refine ⟨_ :: i, by rw [k1, List.cons_append, List.length_drop, show p + (firstL (c :: r)).2.1 + ((c :: r).length - (firstL (c :: r)).2.1) = p + (c :: r).length by omega], fun t ht => ?_⟩
  rcases List.mem_cons.1 ht with rfl | ht
  ·exact (first_good p h h1 h2).1
  ·exact k2 t ht
end Go.Proofs.YtbhpnioggpgbhaaGreatDoor
