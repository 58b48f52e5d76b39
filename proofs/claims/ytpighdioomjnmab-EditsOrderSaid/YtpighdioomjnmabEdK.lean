/-
  Layer 16: rows of edits in order: what a merge and a cut make of them. Written by an AI agent.
-/
import Derived.Test.YtpighdioomjnmabEdJ
namespace Go.Proofs.Ytpighdioomjnmab
set_option linter.unusedVariables false
set_option linter.unusedSimpArgs false

def leE (x y : Ed) : Bool := decide (x.t ≤ y.t)
abbrev mrgE (a b : List Ed) : List Ed := List.merge a b leE
def SortE (l : List Ed) : Prop := l.Pairwise (fun x y => leE x y)

theorem mrg_pos {x y : Ed} {a b : List Ed} (h : x.t ≤ y.t) : mrgE (x :: a) (y :: b) = x :: mrgE a (y :: b) := by
  unfold mrgE
  rw [List.cons_merge_cons]
  rw [if_pos (by unfold leE; exact decide_eq_true h)]
theorem mrg_neg {x y : Ed} {a b : List Ed} (h : ¬ x.t ≤ y.t) : mrgE (x :: a) (y :: b) = y :: mrgE (x :: a) b := by
  unfold mrgE
  rw [List.cons_merge_cons]
  rw [if_neg (by unfold leE; simpa using h)]

theorem sort_mrg {a b : List Ed} (ha : SortE a) (hb : SortE b) : SortE (mrgE a b) :=
  List.pairwise_merge (fun x y z h1 h2 => by unfold leE at *; simp at *; omega) (fun x y => by unfold leE; simp; omega) a b ha hb

theorem sort_head {x y : Ed} {a : List Ed} (h : SortE (x :: a)) (hy : y ∈ a) : x.t ≤ y.t := by
  have := List.rel_of_pairwise_cons h hy
  unfold leE at this
  simpa using this
theorem sort_tail {x : Ed} {a : List Ed} (h : SortE (x :: a)) : SortE a := List.Pairwise.of_cons h

theorem insE_nil (y : Ed) : insE [] y = [y] := rfl
theorem insE_lt {u y : Ed} {a : List Ed} (h : y.t < u.t) : insE (u :: a) y = y :: u :: a := by
  have hp : plE (u :: a) y.t = 0 := by unfold plE; rw [List.findIdx_cons]; simp [h]
  unfold insE
  rw [hp]
  rfl
theorem insE_ge {u y : Ed} {a : List Ed} (h : ¬ y.t < u.t) : insE (u :: a) y = u :: insE a y := by
  have hp : plE (u :: a) y.t = plE a y.t + 1 := by unfold plE; rw [List.findIdx_cons]; simp [h]
  unfold insE
  rw [hp]
  rfl

theorem mrg_ins (a : List Ed) (y : Ed) (b : List Ed) (h : SortE (y :: b)) : mrgE (insE a y) b = mrgE a (y :: b) := by
  induction a with
  | nil =>
    rw [insE_nil]
    cases b with
    | nil => simp [mrgE]
    | cons z b => rw [mrg_pos (sort_head h (by simp))]; simp [mrgE]
  | cons u a ih =>
    by_cases hy : y.t < u.t
    · rw [insE_lt hy, mrg_neg (by omega)]
      cases b with
      | nil => simp [mrgE]
      | cons z b => rw [mrg_pos (sort_head h (by simp))]
    · rw [insE_ge hy, mrg_pos (by omega), ← ih]
      cases b with
      | nil => simp [mrgE]
      | cons z b =>
        have := sort_head h (y := z) (by simp)
        rw [mrg_pos (by omega)]

theorem merge_mrg (a b : List Ed) (hb : SortE b) : mergeE a b = mrgE a b := by
  induction b generalizing a with
  | nil => simp [mergeE, mrgE]
  | cons y b ih =>
    rw [← mrg_ins a y b hb, ← ih (insE a y) (sort_tail hb)]
    rfl

theorem sort_one (y : Ed) : SortE [y] := List.pairwise_singleton _ _
theorem sort_ins {a : List Ed} (y : Ed) (h : SortE a) : SortE (insE a y) := by
  have e : insE a y = mrgE a [y] := by
    have := mrg_ins a y [] (sort_one y)
    simpa [mrgE] using this
  rw [e]
  exact sort_mrg h (sort_one y)
theorem sort_merge {a : List Ed} (b : List Ed) (h : SortE a) : SortE (mergeE a b) := by
  induction b generalizing a with
  | nil => exact h
  | cons y b ih => exact ih (sort_ins y h)
theorem sort_nil : SortE [] := List.Pairwise.nil

theorem mrg_assoc (a b c : List Ed) : mrgE (mrgE a b) c = mrgE a (mrgE b c) := by
  obtain ⟨n, hn⟩ : ∃ n, n = a.length + b.length + c.length := ⟨_, rfl⟩
  induction n using Nat.strongRecOn generalizing a b c with
  | ind n ih =>
    cases a with
    | nil => simp [mrgE]
    | cons x a =>
      cases b with
      | nil => simp [mrgE]
      | cons y b =>
        cases c with
        | nil => simp [mrgE]
        | cons z c =>
          simp only [List.length_cons] at hn
          by_cases hxy : x.t ≤ y.t
          · rw [mrg_pos hxy]
            by_cases hxz : x.t ≤ z.t
            · rw [mrg_pos hxz, ih _ (by subst hn; simp only [List.length_cons]; omega) a (y :: b) (z :: c) rfl]
              by_cases hyz : y.t ≤ z.t
              · rw [mrg_pos hyz, mrg_pos hxy]
              · rw [mrg_neg hyz, mrg_pos hxz]
            · rw [mrg_neg hxz, mrg_neg (by omega : ¬ y.t ≤ z.t), mrg_neg hxz, ← mrg_pos hxy, ih _ (by subst hn; simp only [List.length_cons]; omega) (x :: a) (y :: b) c rfl]
          · rw [mrg_neg hxy]
            by_cases hyz : y.t ≤ z.t
            · rw [mrg_pos hyz, mrg_pos hyz, mrg_neg hxy, ih _ (by subst hn; simp only [List.length_cons]; omega) (x :: a) b (z :: c) rfl]
            · rw [mrg_neg hyz, mrg_neg hyz, mrg_neg (by omega : ¬ x.t ≤ z.t), ← mrg_neg hxy, ih _ (by subst hn; simp only [List.length_cons]; omega) (x :: a) (y :: b) c rfl]

theorem merge_assoc (a b c : List Ed) (hb : SortE b) (hc : SortE c) : mergeE (mergeE a b) c = mergeE a (mergeE b c) := by
  rw [merge_mrg _ c hc, merge_mrg a b hb, merge_mrg b c hc, merge_mrg a _ (sort_mrg hb hc), mrg_assoc]

theorem upto_cons_pos {x : Ed} {a : List Ed} {t : Int} (h : x.t ≤ t) : uptoE (x :: a) t = x :: uptoE a t := by unfold uptoE; rw [List.filter_cons_of_pos (by simpa using h)]
theorem upto_cons_neg {x : Ed} {a : List Ed} {t : Int} (h : ¬ x.t ≤ t) : uptoE (x :: a) t = uptoE a t := by unfold uptoE; rw [List.filter_cons_of_neg (by simpa using h)]
theorem upto_none {a : List Ed} {t : Int} (h : ∀ x ∈ a, t < x.t) : uptoE a t = [] := by
  unfold uptoE
  rw [List.filter_eq_nil_iff]
  intro x hx
  have := h x hx
  simp
  omega
theorem sort_upto {a : List Ed} (t : Int) (h : SortE a) : SortE (uptoE a t) := List.Pairwise.filter _ h

theorem upto_mrg (a b : List Ed) (t : Int) (ha : SortE a) (hb : SortE b) : uptoE (mrgE a b) t = mrgE (uptoE a t) (uptoE b t) := by
  obtain ⟨n, hn⟩ : ∃ n, n = a.length + b.length := ⟨_, rfl⟩
  induction n using Nat.strongRecOn generalizing a b with
  | ind n ih =>
    cases a with
    | nil => simp [mrgE, uptoE]
    | cons x a =>
      cases b with
      | nil => simp [mrgE, uptoE]
      | cons y b =>
        simp only [List.length_cons] at hn
        by_cases hxy : x.t ≤ y.t
        · rw [mrg_pos hxy]
          by_cases hx : x.t ≤ t
          · rw [upto_cons_pos hx, upto_cons_pos hx, ih _ (by subst hn; simp only [List.length_cons]; omega) a (y :: b) (sort_tail ha) hb rfl]
            by_cases hy : y.t ≤ t
            · rw [upto_cons_pos hy, mrg_pos hxy]
            · rw [upto_none (a := y :: b) (fun z hz => by
                rcases List.mem_cons.1 hz with rfl | hz
                · omega
                · have := sort_head hb hz; omega)]
              simp [mrgE]
          · rw [upto_cons_neg hx, upto_cons_neg hx, ih _ (by subst hn; simp only [List.length_cons]; omega) a (y :: b) (sort_tail ha) hb rfl]
        · rw [mrg_neg hxy]
          by_cases hy : y.t ≤ t
          · rw [upto_cons_pos hy, upto_cons_pos hy, ih _ (by subst hn; simp only [List.length_cons]; omega) (x :: a) b ha (sort_tail hb) rfl]
            by_cases hx : x.t ≤ t
            · rw [upto_cons_pos hx, mrg_neg hxy]
            · rw [upto_none (a := x :: a) (fun z hz => by
                rcases List.mem_cons.1 hz with rfl | hz
                · omega
                · have := sort_head ha hz; omega)]
              simp [mrgE]
          · rw [upto_cons_neg hy, upto_cons_neg hy, ih _ (by subst hn; simp only [List.length_cons]; omega) (x :: a) b ha (sort_tail hb) rfl]

theorem upto_merge (a b : List Ed) (t : Int) (ha : SortE a) (hb : SortE b) : uptoE (mergeE a b) t = mergeE (uptoE a t) (uptoE b t) := by
  rw [merge_mrg a b hb, upto_mrg a b t ha hb, merge_mrg _ _ (sort_upto t hb)]

theorem sortedE_of {a : List Ed} (h : SortE a) : SortedE a := fun i hi => by
  have := List.pairwise_iff_getElem.1 h i (i + 1) (by omega) hi (by omega)
  rw [getE_lt hi, getE_lt (show i < a.length by omega)]
  unfold leE at this
  simpa using this

/-- The walk with two fingers: what stands j-th of a merge. -/
theorem walk_left {a b : List Ed} {i k j : Nat} (hd : (mrgE a b).drop j = mrgE (a.drop i) (b.drop k)) (hi : i < a.length) (h : b.length ≤ k ∨ (k < b.length ∧ (a.getD i default).t ≤ (b.getD k default).t)) :
    j < (mrgE a b).length ∧ (mrgE a b).getD j default = a.getD i default ∧ (mrgE a b).drop (j + 1) = mrgE (a.drop (i + 1)) (b.drop k) := by
  have e : mrgE (a.drop i) (b.drop k) = a.getD i default :: mrgE (a.drop (i + 1)) (b.drop k) := by
    rw [List.drop_eq_getElem_cons hi, getE_lt hi]
    rcases h with h | ⟨hk, h⟩
    · rw [List.drop_of_length_le h]; simp [mrgE]
    · rw [getE_lt hi, getE_lt hk] at h
      rw [List.drop_eq_getElem_cons hk, mrg_pos h]
  rw [e] at hd
  have hj : j < (mrgE a b).length := by
    rcases Nat.lt_or_ge j (mrgE a b).length with h1 | h1
    · exact h1
    · rw [List.drop_of_length_le h1] at hd; cases hd
  rw [List.drop_eq_getElem_cons hj] at hd
  injection hd with h1 h2
  exact ⟨hj, by rw [getE_lt hj, h1], h2⟩
theorem walk_right {a b : List Ed} {i k j : Nat} (hd : (mrgE a b).drop j = mrgE (a.drop i) (b.drop k)) (hk : k < b.length) (h : a.length ≤ i ∨ (i < a.length ∧ ¬ (a.getD i default).t ≤ (b.getD k default).t)) :
    j < (mrgE a b).length ∧ (mrgE a b).getD j default = b.getD k default ∧ (mrgE a b).drop (j + 1) = mrgE (a.drop i) (b.drop (k + 1)) := by
  have e : mrgE (a.drop i) (b.drop k) = b.getD k default :: mrgE (a.drop i) (b.drop (k + 1)) := by
    rw [List.drop_eq_getElem_cons hk, getE_lt hk]
    rcases h with h | ⟨hi, h⟩
    · rw [List.drop_of_length_le h]; simp [mrgE]
    · rw [getE_lt hi, getE_lt hk] at h
      rw [List.drop_eq_getElem_cons hi, mrg_neg h]
  rw [e] at hd
  have hj : j < (mrgE a b).length := by
    rcases Nat.lt_or_ge j (mrgE a b).length with h1 | h1
    · exact h1
    · rw [List.drop_of_length_le h1] at hd; cases hd
  rw [List.drop_eq_getElem_cons hj] at hd
  injection hd with h1 h2
  exact ⟨hj, by rw [getE_lt hj, h1], h2⟩

theorem upto_upto (L : List Ed) (t u : Int) : uptoE (uptoE L t) u = uptoE L (min t u) := by
  unfold uptoE
  rw [List.filter_filter]
  congr 1
  funext x
  rw [Bool.eq_iff_iff]
  simp
  omega
theorem insE_at (L : List Ed) (y : Ed) : (insE L y).getD (plE L y.t) default = y := by
  have h := plE_le L y.t
  rw [getE_lt (by rw [insE_length]; omega)]
  unfold insE
  rw [List.getElem_append_right (by rw [List.length_take]; omega)]
  simp [List.length_take, Nat.min_eq_left h]
theorem insE_rest (L : List Ed) (y : Ed) : (insE L y).take (plE L y.t) ++ (insE L y).drop (plE L y.t + 1) = L := by
  have h := plE_le L y.t
  have ht : (L.take (plE L y.t)).length = plE L y.t := by rw [List.length_take]; omega
  have e1 : (insE L y).take (plE L y.t) = L.take (plE L y.t) := by unfold insE; exact List.take_left' ht
  have e2 : (insE L y).drop (plE L y.t + 1) = L.drop (plE L y.t) := by
    have : insE L y = (L.take (plE L y.t) ++ [y]) ++ L.drop (plE L y.t) := by unfold insE; simp
    rw [this]
    exact List.drop_left' (by rw [List.length_append, ht]; rfl)
  rw [e1, e2, List.take_append_drop]

end Go.Proofs.Ytpighdioomjnmab
