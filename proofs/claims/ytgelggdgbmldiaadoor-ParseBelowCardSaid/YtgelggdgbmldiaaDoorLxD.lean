/-
  Layer 1: the tokens of texts of certain forms. Written by an AI agent.
-/
import Derived.Test.YtgelggdgbmldiaaDoorLxC
namespace Go.Proofs.YtgelggdgbmldiaaDoor
set_option linter.unusedVariables false
set_option linter.unusedSimpArgs false

theorem ltr_facts {c : UInt8} (h : ltr c = true) : dig c = false ∧ blk c = false ∧ c ≠ 47 ∧ nmc c = true := by
  refine ⟨?_, ?_, fun e => ?_, by unfold nmc; rw [h]; rfl⟩
  · unfold ltr at h
    unfold dig
    simp at h ⊢
    omega
  · unfold ltr at h
    unfold blk
    simp at h ⊢
    omega
  · rw [e] at h
    revert h
    decide
theorem dig_facts {c : UInt8} (h : dig c = true) : ltr c = false ∧ blk c = false ∧ c ≠ 47 := by
  refine ⟨?_, ?_, fun e => ?_⟩
  · unfold dig at h
    unfold ltr
    simp at h ⊢
    omega
  · unfold dig at h
    unfold blk
    simp at h ⊢
    omega
  · rw [e] at h
    revert h
    decide
theorem not_rem {c : UInt8} {r : List UInt8} (h : c ≠ 47) : isRem (c :: r) = false := by
  cases hh : isRem (c :: r) with
  | false => rfl
  | true => exact absurd (rem_head hh) h

theorem lex_name {c : UInt8} {r : List UInt8} (h : ltr c = true) (hall : ∀ d ∈ c :: r, nmc d = true) (p : Nat) :
    lexL (c :: r) p = if isWord (c :: r) then ([⟨4, c :: r, p⟩, ⟨0, [], p + (c :: r).length⟩], none) else if 8 < (c :: r).length then ([], some (p, 13)) else ([⟨3, c :: r, p⟩, ⟨0, [], p + (c :: r).length⟩], none) := by
  obtain ⟨h1, h2, h3, h4⟩ := ltr_facts h
  have hrun := runL_whole nmc (c :: r) hall
  have hf : firstL (c :: r) = nameL (c :: r) := by unfold firstL; rw [List.headD_cons, if_neg (by rw [h1]; decide), if_pos h]
  have hn : nameL (c :: r) = if isWord (c :: r) then (4, (c :: r).length, 0) else if 8 < (c :: r).length then (0, 0, 13) else (3, (c :: r).length, 0) := by unfold nameL; rw [hrun, List.take_length]
  by_cases hw : isWord (c :: r) = true
  · rw [if_pos hw] at hn ⊢
    rw [lexL_tok h2 (not_rem h3) (by rw [hf, hn]), hf, hn]
    simp only [List.take_length, List.drop_length]
    rfl
  · rw [if_neg hw] at hn ⊢
    by_cases hl : 8 < (c :: r).length
    · rw [if_pos hl] at hn ⊢
      rw [lexL_bad h2 (not_rem h3) (by rw [hf, hn]; decide), hf, hn]
    · rw [if_neg hl] at hn ⊢
      rw [lexL_tok h2 (not_rem h3) (by rw [hf, hn]), hf, hn]
      simp only [List.take_length, List.drop_length]
      rfl

theorem lex_semi (p : Nat) : lexL [59] p = ([⟨5, [59], p⟩, ⟨0, [], p + 1⟩], none) := by
  rw [lexL_tok (by decide) (by decide) (by decide)]
  rfl

theorem lex_number {c : UInt8} {r : List UInt8} (h : dig c = true) (hall : ∀ d ∈ c :: r, dig d = true) (hv : numV (c :: r) ≤ 9223372036854775807) :
    lexL (c :: r ++ [59]) 0 = if (c :: r).length ≤ 19 then ([⟨1, c :: r, 0⟩, ⟨5, [59], (c :: r).length⟩, ⟨0, [], (c :: r).length + 1⟩], none) else ([], some (0, 12)) := by
  obtain ⟨h1, h2, h3⟩ := dig_facts h
  have hrun : runL dig (c :: r ++ [59]) = (c :: r).length := by rw [runL_append dig _ _ hall, runL_cons_false _ _ _ (by decide)]; rfl
  have hf : firstL (c :: (r ++ [59])) = numberL (c :: r ++ [59]) := by unfold firstL; rw [List.headD_cons, if_pos h]; rfl
  have hn : numberL (c :: r ++ [59]) = if (c :: r).length ≤ 19 then (1, (c :: r).length, 0) else (0, 0, 12) := by
    unfold numberL
    rw [hrun, List.take_left]
    by_cases hl : (c :: r).length ≤ 19
    · rw [if_pos ⟨hv, hl⟩, if_pos hl]
    · rw [if_neg (fun h => hl h.2), if_neg hl]
  show lexL (c :: (r ++ [59])) 0 = _
  by_cases hl : (c :: r).length ≤ 19
  · rw [if_pos hl] at hn ⊢
    rw [lexL_tok h2 (not_rem h3) (by rw [hf, hn]), hf, hn]
    have e1 : (c :: (r ++ [59])).drop (c :: r).length = [59] := by
      show (c :: r ++ [59]).drop (c :: r).length = [59]
      exact List.drop_left
    have e2 : (c :: (r ++ [59])).take (c :: r).length = c :: r := by
      show (c :: r ++ [59]).take (c :: r).length = c :: r
      exact List.take_left
    simp only [e1, e2, Nat.zero_add, lex_semi]
    rfl
  · rw [if_neg hl] at hn ⊢
    rw [lexL_bad h2 (not_rem h3) (by rw [hf, hn]; decide), hf, hn]

theorem lex_big : lexL [57, 50, 50, 51, 51, 55, 50, 48, 51, 54, 56, 53, 52, 55, 55, 53, 56, 48, 56] 0 = ([], some (0, 12)) := by
  rw [lexL_bad (by decide) (by decide) (by decide +kernel), show (firstL [57, 50, 50, 51, 51, 55, 50, 48, 51, 54, 56, 53, 52, 55, 55, 53, 56, 48, 56]).2.2 = 12 from by decide +kernel]
theorem lex_most : (lexL [57, 50, 50, 51, 51, 55, 50, 48, 51, 54, 56, 53, 52, 55, 55, 53, 56, 48, 55] 0).2 = none ∧ (lexL [57, 50, 50, 51, 51, 55, 50, 48, 51, 54, 56, 53, 52, 55, 55, 53, 56, 48, 55] 0).1.length = 2 := by decide +kernel

theorem lex_text {x : List UInt8} (hq : (34 : UInt8) ∉ x) (p : Nat) :
    lexL (34 :: (x ++ [34])) p = if (∀ c ∈ x, txc c = true) then (if 12 < x.length then ([], some (p, 4)) else ([⟨2, x, p⟩, ⟨0, [], p + x.length + 2⟩], none)) else ([], some (p, 11)) := by
  have hf : firstL (34 :: (x ++ [34])) = textL (x ++ [34]) := by unfold firstL; rw [List.headD_cons, if_neg (by decide), if_neg (by decide), if_pos rfl]; rfl
  by_cases hall : ∀ c ∈ x, txc c = true
  · rw [if_pos hall]
    have hrun : runL txc (x ++ [34]) = x.length := by rw [runL_append txc _ _ hall, runL_cons_false _ _ _ (by decide)]; rfl
    have hg : (x ++ [34])[x.length]? = some 34 := by rw [List.getElem?_append_right (Nat.le_refl _), Nat.sub_self]; rfl
    by_cases hl : 12 < x.length
    · rw [if_pos hl]
      have hn : textL (x ++ [34]) = (0, 0, 4) := by unfold textL; rw [hrun, if_pos hg, if_pos hl]
      rw [lexL_bad (by decide) (not_rem (by decide)) (by rw [hf, hn]; decide), hf, hn]
    · rw [if_neg hl]
      have hn : textL (x ++ [34]) = (2, x.length + 2, 0) := by unfold textL; rw [hrun, if_pos hg, if_neg hl]
      rw [lexL_tok (by decide) (not_rem (by decide)) (by rw [hf, hn]), hf, hn]
      have hlen : (34 :: (x ++ [34])).length = x.length + 2 := by simp
      have e1 : (34 :: (x ++ [34])).drop (x.length + 2) = [] := List.drop_of_length_le (by omega)
      have e2 : (34 :: (x ++ [34])).take (x.length + 2) = 34 :: (x ++ [34]) := List.take_of_length_le (by omega)
      simp only [e1, e2]
      rw [lexL_nil]
      have e3 : saidL 2 (34 :: (x ++ [34])) = x := by
        unfold saidL
        rw [if_pos rfl, hlen]
        simp [List.take_succ_cons]
      rw [e3]
      rfl
  · rw [if_neg hall]
    have hn : textL (x ++ [34]) = (0, 0, 11) := by
      unfold textL
      rw [if_neg]
      intro h
      have hlt : runL txc (x ++ [34]) < x.length := by
        have hle := runL_le txc (x ++ [34])
        have hal := runL_all txc (x ++ [34])
        rcases Nat.lt_or_ge (runL txc (x ++ [34])) x.length with h1 | h1
        · exact h1
        · exfalso
          apply hall
          intro c hc
          apply hal
          rw [List.take_append]
          rw [List.take_of_length_le h1]
          exact List.mem_append_left _ hc
      rw [List.getElem?_append_left hlt] at h
      exact hq (List.mem_of_getElem? h)
    rw [lexL_bad (by decide) (not_rem (by decide)) (by rw [hf, hn]; decide), hf, hn]

theorem lex_open {x : List UInt8} (hq : (34 : UInt8) ∉ x) : (lexL (97 :: 32 :: 34 :: x) 0).2 = some (2, 11) := by
  have hf0 : firstL (97 :: 32 :: 34 :: x) = (3, 1, 0) := by
    have hr : runL nmc (97 :: 32 :: 34 :: x) = 1 := by
      show (if nmc 97 then runL nmc (32 :: 34 :: x) + 1 else 0) = 1
      rw [if_pos (by decide), runL_cons_false _ _ _ (by decide)]
    unfold firstL
    rw [List.headD_cons, if_neg (by decide), if_pos (by decide)]
    unfold nameL
    rw [hr]
    rfl
  rw [lexL_tok (by decide) (not_rem (by decide)) (by rw [hf0])]
  rw [hf0]
  show (lexL (32 :: 34 :: x) (0 + 1)).2 = _
  rw [lexL_blank (by decide)]
  have hf : firstL (34 :: x) = textL x := by unfold firstL; rw [List.headD_cons, if_neg (by decide), if_neg (by decide), if_pos rfl]; rfl
  have hn : textL x = (0, 0, 11) := by
    unfold textL
    rw [if_neg]
    intro h
    exact hq (List.mem_of_getElem? h)
  rw [lexL_bad (by decide) (not_rem (by decide)) (by rw [hf, hn]; decide), hf, hn]

def blanksL : List (List UInt8) := [[32], [9], [10], [47, 47, 32, 120, 32, 34, 10]]
theorem lex_gap1 {b : List UInt8} (hb : b ∈ blanksL) (l : List UInt8) (p : Nat) : lexL (b ++ l) p = lexL l (p + b.length) := by
  simp only [blanksL, List.mem_cons, List.not_mem_nil, or_false] at hb
  rcases hb with rfl | rfl | rfl | rfl
  · exact lexL_blank (by decide)
  · exact lexL_blank (by decide)
  · exact lexL_blank (by decide)
  · have hrun : runL (fun d => !decide (d = 10)) (47 :: 47 :: 32 :: 120 :: 32 :: 34 :: 10 :: l) = 6 := by
      have := runL_append (fun d : UInt8 => !decide (d = 10)) [47, 47, 32, 120, 32, 34] (10 :: l) (by decide)
      rw [runL_cons_false _ _ _ (by decide)] at this
      exact this
    show lexL (47 :: 47 :: 32 :: 120 :: 32 :: 34 :: 10 :: l) p = _
    have hrem : isRem (47 :: 47 :: 32 :: 120 :: 32 :: 34 :: 10 :: l) = true := List.isPrefixOf_iff_prefix.2 ⟨32 :: 120 :: 32 :: 34 :: 10 :: l, rfl⟩
    rw [lexL_rem (by decide) hrem (by rw [hrun]; simp), hrun]
    show lexL (10 :: l) (p + 6) = _
    rw [lexL_blank (by decide)]
    rfl
theorem lex_gap {b : List UInt8} (hb : b ∈ blanksL) (m : Nat) (l : List UInt8) (p : Nat) : lexL ((List.replicate m b).flatten ++ l) p = lexL l (p + m * b.length) := by
  induction m generalizing p with
  | zero => simp
  | succ m ih =>
    rw [List.replicate_succ, List.flatten_cons, List.append_assoc, lex_gap1 hb, ih, Nat.succ_mul, show p + b.length + m * b.length = p + (m * b.length + b.length) by omega]

end Go.Proofs.YtgelggdgbmldiaaDoor
