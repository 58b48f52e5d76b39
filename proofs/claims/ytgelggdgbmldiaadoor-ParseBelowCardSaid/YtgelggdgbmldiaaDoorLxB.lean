/-
  Layer 1: what stays of tokens where a source is cut, shifted, or put together. Written by an AI agent.
-/
import Derived.Test.YtgelggdgbmldiaaDoorLxA
namespace Go.Proofs.YtgelggdgbmldiaaDoor
set_option linter.unusedVariables false
set_option linter.unusedSimpArgs false

/-- How a source goes on. -/
theorem lexL_ind {P : List UInt8 → Nat → Prop} (hnil : ∀ p, P [] p) (hblk : ∀ c r p, blk c = true → P r (p + 1) → P (c :: r) p)
    (hend : ∀ c r p, blk c = false → isRem (c :: r) = true → runL (fun d => !decide (d = 10)) (c :: r) = (c :: r).length → P (c :: r) p)
    (hrem : ∀ c r p, blk c = false → isRem (c :: r) = true → ¬ runL (fun d => !decide (d = 10)) (c :: r) = (c :: r).length → P ((c :: r).drop (runL (fun d => !decide (d = 10)) (c :: r))) (p + runL (fun d => !decide (d = 10)) (c :: r)) → P (c :: r) p)
    (hbad : ∀ c r p, blk c = false → isRem (c :: r) = false → ¬ (firstL (c :: r)).2.2 = 0 → P (c :: r) p)
    (htok : ∀ c r p, blk c = false → isRem (c :: r) = false → (firstL (c :: r)).2.2 = 0 → P ((c :: r).drop (firstL (c :: r)).2.1) (p + (firstL (c :: r)).2.1) → P (c :: r) p) (l : List UInt8) (p : Nat) : P l p := by
  obtain ⟨n, hn⟩ : ∃ n, n = l.length := ⟨_, rfl⟩
  induction n using Nat.strongRecOn generalizing l p with
  | ind n ih =>
    cases l with
    | nil => exact hnil p
    | cons c r =>
      rw [List.length_cons] at hn
      cases h0 : blk c with
      | true => exact hblk c r p h0 (ih r.length (by omega) r _ rfl)
      | false =>
        cases h1 : isRem (c :: r) with
        | true =>
          have h2 := rem_size _ h1
          by_cases h3 : runL (fun d => !decide (d = 10)) (c :: r) = (c :: r).length
          · exact hend c r p h0 h1 h3
          · exact hrem c r p h0 h1 h3 (ih _ (by rw [List.length_drop, List.length_cons]; omega) _ _ rfl)
        | false =>
          by_cases h3 : (firstL (c :: r)).2.2 = 0
          · have h4 := first_size (c :: r) (by simp) h3
            exact htok c r p h0 h1 h3 (ih _ (by rw [List.length_drop, List.length_cons]; omega) _ _ rfl)
          · exact hbad c r p h0 h1 h3

def Tok.up (d : Nat) (t : Tok) : Tok := ⟨t.k, t.x, t.p + d⟩

theorem lexL_shift (d : Nat) (l : List UInt8) (p : Nat) : lexL l (p + d) = ((lexL l p).1.map (Tok.up d), (lexL l p).2.map (fun q => (q.1 + d, q.2))) := by
  refine lexL_ind (P := fun l p => lexL l (p + d) = ((lexL l p).1.map (Tok.up d), (lexL l p).2.map (fun q => (q.1 + d, q.2)))) ?_ ?_ ?_ ?_ ?_ ?_ l p
  · intro p; rfl
  · intro c r p h ih
    rw [lexL_blank h, lexL_blank h, show p + d + 1 = p + 1 + d by omega]
    exact ih
  · intro c r p h h1 h2
    rw [lexL_rem_end h h1 h2, lexL_rem_end h h1 h2]
    simp [Tok.up]
    omega
  · intro c r p h h1 h2 ih
    rw [lexL_rem h h1 h2, lexL_rem h h1 h2, show p + d + runL (fun d => !decide (d = 10)) (c :: r) = p + runL (fun d => !decide (d = 10)) (c :: r) + d by omega]
    exact ih
  · intro c r p h h1 h2
    rw [lexL_bad h h1 h2, lexL_bad h h1 h2]
    rfl
  · intro c r p h h1 h2 ih
    rw [lexL_tok h h1 h2, lexL_tok h h1 h2, show p + d + (firstL (c :: r)).2.1 = p + (firstL (c :: r)).2.1 + d by omega, ih]
    rfl

theorem isTwo_take (l : List UInt8) (n : Nat) (hn : 2 ≤ n) : isTwo (l.take n) = isTwo l := by
  rw [Bool.eq_iff_iff]
  unfold isTwo
  rw [List.any_eq_true, List.any_eq_true]
  constructor
  · rintro ⟨t, ht, hp⟩
    exact ⟨t, ht, List.isPrefixOf_iff_prefix.2 ((List.isPrefixOf_iff_prefix.1 hp).trans (List.take_prefix _ _))⟩
  · rintro ⟨t, ht, hp⟩
    have h5 : t.length = 2 := by
      simp only [twosL, List.mem_cons, List.not_mem_nil, or_false] at ht
      rcases ht with rfl | rfl | rfl | rfl | rfl <;> rfl
    exact ⟨t, ht, List.isPrefixOf_iff_prefix.2 (List.prefix_take_iff.2 ⟨List.isPrefixOf_iff_prefix.1 hp, by omega⟩)⟩
theorem isTwo_of_take {l : List UInt8} {n : Nat} (h : isTwo (l.take n) = true) : isTwo l = true := by
  unfold isTwo at h ⊢
  rw [List.any_eq_true] at h ⊢
  obtain ⟨t, ht, hp⟩ := h
  exact ⟨t, ht, List.isPrefixOf_iff_prefix.2 ((List.isPrefixOf_iff_prefix.1 hp).trans (List.take_prefix _ _))⟩
theorem isRem_of_take {l : List UInt8} {n : Nat} (h : isRem (l.take n) = true) : isRem l = true :=
  List.isPrefixOf_iff_prefix.2 ((List.isPrefixOf_iff_prefix.1 h).trans (List.take_prefix _ _))
theorem isRem_take {l : List UInt8} {n : Nat} (hn : 2 ≤ n) (h : isRem l = true) : isRem (l.take n) = true :=
  List.isPrefixOf_iff_prefix.2 (List.prefix_take_iff.2 ⟨List.isPrefixOf_iff_prefix.1 h, hn⟩)

/-- A token is the same where the source is cut behind it. -/
theorem first_take (l : List UInt8) (n : Nat) (hl : l ≠ []) (h : (firstL l).2.2 = 0) (hn : (firstL l).2.1 ≤ n) : firstL (l.take n) = firstL l := by
  have hs := first_size l hl h
  obtain ⟨c, r, rfl⟩ := List.exists_cons_of_ne_nil hl
  obtain ⟨m, rfl⟩ : ∃ m, n = m + 1 := ⟨n - 1, by omega⟩
  rw [List.take_succ_cons]
  rw [firstL_cons] at h hn hs
  rw [firstL_cons, firstL_cons]
  by_cases h1 : dig c = true
  · rw [if_pos h1] at h hn hs ⊢
    rw [if_pos h1]
    unfold numberL at h hn ⊢
    split at h
    · rename_i hc
      rw [if_pos hc] at hn
      have hn : runL dig (c :: r) ≤ m + 1 := hn
      have e := runL_take dig (c :: r) (m + 1) hn
      rw [List.take_succ_cons] at e
      rw [e, ← List.take_succ_cons, List.take_take, Nat.min_eq_left hn]
    · cases h
  · rw [if_neg h1] at h hn hs ⊢
    rw [if_neg h1]
    by_cases h2 : ltr c = true
    · rw [if_pos h2] at h hn hs ⊢
      rw [if_pos h2]
      unfold nameL at h hn ⊢
      have hn : runL nmc (c :: r) ≤ m + 1 := by
        split at h
        · rename_i hc; rw [if_pos hc] at hn; exact hn
        · rename_i hc
          rw [if_neg hc] at hn
          split at h
          · cases h
          · rename_i hc; rw [if_neg hc] at hn; exact hn
      have e := runL_take nmc (c :: r) (m + 1) hn
      rw [List.take_succ_cons] at e
      rw [e, ← List.take_succ_cons, List.take_take, Nat.min_eq_left hn]
    · rw [if_neg h2] at h hn hs ⊢
      rw [if_neg h2]
      by_cases h3 : c = 34
      · rw [if_pos h3] at h hn hs ⊢
        rw [if_pos h3]
        unfold textL at h hn ⊢
        split at h
        · rename_i hc
          rw [if_pos hc] at hn
          split at h
          · cases h
          · rename_i hd
            rw [if_neg hd] at hn
            have hn : runL txc r + 2 ≤ m + 1 := hn
            have e := runL_take txc r m (by omega)
            rw [e, List.getElem?_take, if_pos (show runL txc r < m by omega)]
        · cases h
      · rw [if_neg h3] at h hn hs ⊢
        rw [if_neg h3]
        rw [signL_cons] at h hn
        rw [signL_cons, signL_cons]
        by_cases h4 : isTwo (c :: r) = true
        · rw [if_pos h4] at hn
          have hn : 2 ≤ m + 1 := hn
          have e := isTwo_take (c :: r) (m + 1) hn
          rw [List.take_succ_cons] at e
          rw [e]
        · rw [if_neg h4]
          rw [if_neg (fun h => h4 (isTwo_of_take (n := m + 1) (by rw [List.take_succ_cons]; exact h)))]

theorem first_errs (l : List UInt8) (h : ¬ (firstL l).2.2 = 0) : (firstL l).2.2 = 10 ∨ (firstL l).2.2 = 11 ∨ (firstL l).2.2 = 12 ∨ (firstL l).2.2 = 13 ∨ (firstL l).2.2 = 4 := by
  unfold firstL numberL nameL textL signL at h ⊢
  repeat' split
  all_goals simp_all

/-- Where a source fails, it has tokens ahead. -/
theorem lexL_cut (l : List UInt8) (p : Nat) : ∀ q e, (lexL l p).2 = some (q, e) → p ≤ q ∧ q < p + l.length ∧ (lexL (l.take (q - p)) p).2 = none ∧ (e = 10 ∨ e = 11 ∨ e = 12 ∨ e = 13 ∨ e = 4) := by
  refine lexL_ind (P := fun l p => ∀ q e, (lexL l p).2 = some (q, e) → p ≤ q ∧ q < p + l.length ∧ (lexL (l.take (q - p)) p).2 = none ∧ (e = 10 ∨ e = 11 ∨ e = 12 ∨ e = 13 ∨ e = 4)) ?_ ?_ ?_ ?_ ?_ ?_ l p
  · intro p q e h
    rw [lexL_nil] at h
    cases h
  · intro c r p h ih q e hq
    rw [lexL_blank h] at hq
    obtain ⟨h1, h2, h3, h4⟩ := ih q e hq
    refine ⟨by omega, by rw [List.length_cons]; omega, ?_, h4⟩
    obtain ⟨m, hm⟩ : ∃ m, q - p = m + 1 := ⟨q - p - 1, by omega⟩
    rw [hm, List.take_succ_cons, lexL_blank h, ← show q - (p + 1) = m by omega]
    exact h3
  · intro c r p h h1 h2 q e hq
    rw [lexL_rem_end h h1 h2] at hq
    cases hq
  · intro c r p h h1 h2 ih q e hq
    rw [lexL_rem h h1 h2] at hq
    obtain ⟨k1, k2, k3, k4⟩ := ih q e hq
    have hz := rem_size _ h1
    have hle := runL_le (fun d => !decide (d = 10)) (c :: r)
    obtain ⟨z, hzz⟩ : ∃ z, z = runL (fun d => !decide (d = 10)) (c :: r) := ⟨_, rfl⟩
    rw [← hzz] at h2 k1 k2 k3 hz hle
    rw [List.length_drop] at k2
    refine ⟨by omega, by omega, ?_, k4⟩
    obtain ⟨m, hm⟩ : ∃ m, q - p = m + 1 := ⟨q - p - 1, by omega⟩
    have h1' : isRem (c :: r.take m) = true := by rw [← List.take_succ_cons]; exact isRem_take (by omega) h1
    have e := runL_take (fun d => !decide (d = 10)) (c :: r) (m + 1) (by omega)
    rw [List.take_succ_cons, ← hzz] at e
    rw [hm, List.take_succ_cons]
    by_cases hlast : z = (c :: r.take m).length
    · rw [lexL_rem_end h h1' (by rw [e]; exact hlast)]
    · rw [lexL_rem h h1' (by rw [e]; exact hlast), e]
      have : (c :: r.take m).drop z = ((c :: r).drop z).take (q - (p + z)) := by
        rw [← List.take_succ_cons, List.drop_take]
        congr 1
        omega
      rw [this]
      exact k3
  · intro c r p h h1 h2 q e hq
    rw [lexL_bad h h1 h2] at hq
    obtain ⟨rfl, rfl⟩ : p = q ∧ (firstL (c :: r)).2.2 = e := by
      have := Option.some.inj hq
      exact ⟨congrArg Prod.fst this, congrArg Prod.snd this⟩
    refine ⟨Nat.le_refl _, by rw [List.length_cons]; omega, ?_, first_errs _ h2⟩
    rw [Nat.sub_self]
    rfl
  · intro c r p h h1 h2 ih q e hq
    rw [lexL_tok h h1 h2] at hq
    obtain ⟨k1, k2, k3, k4⟩ := ih q e hq
    have hz := first_size (c :: r) (by simp) h2
    obtain ⟨m, hm⟩ : ∃ m, q - p = m + 1 := ⟨q - p - 1, by omega⟩
    have hf := first_take (c :: r) (m + 1) (by simp) h2 (by omega)
    rw [List.take_succ_cons] at hf
    have h1' : isRem (c :: r.take m) = false := by
      cases hh : isRem (c :: r.take m) with
      | false => rfl
      | true =>
        rw [← List.take_succ_cons] at hh
        rw [isRem_of_take hh] at h1
        cases h1
    rw [List.length_drop] at k2
    refine ⟨by omega, by omega, ?_, k4⟩
    rw [hm, List.take_succ_cons, lexL_tok h h1' (by rw [hf]; exact h2), hf]
    have : (c :: r.take m).drop (firstL (c :: r)).2.1 = ((c :: r).drop (firstL (c :: r)).2.1).take (q - (p + (firstL (c :: r)).2.1)) := by
      rw [← List.take_succ_cons, List.drop_take]
      congr 1
      omega
    rw [this]
    exact k3

end Go.Proofs.YtgelggdgbmldiaaDoor
