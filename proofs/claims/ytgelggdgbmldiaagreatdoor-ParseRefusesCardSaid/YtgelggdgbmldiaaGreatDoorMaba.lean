/-
  Layer 2: a source, and more behind it: the same error at the same token. Written by an AI agent.
  Layer 2: ParseRefuses. Written by an AI agent.
-/
import Derived.Test.YtgelggdgbmldiaaGreatDoorMaaz
import Derived.Test.YtgelggdgbmldiaaGreatDoorMaas
import Derived.Test.YtgelggdgbmldiaaGreatDoorMaaw
import Derived.Test.YtgelggdgbmldiaaGreatDoorMaay
import Derived.Deep.LoopGhost
import Derived.Deep.CutRange
import Derived.Deep.Light
namespace Go.Proofs.YtgelggdgbmldiaaGreatDoor
set_option linter.unusedVariables false
set_option linter.unusedSimpArgs false

/-- A node without its line. -/
def un (n : Nd) : Nd := { n with ln := 0 }
/-- Two rows of tokens that are the same ahead of the first one's end. -/
structure Pre (T T' : List Tok) (E A : Nat) : Prop where
  len : T.length = E + 1
  len' : E < T'.length
  big : T'.length ≤ 1000
  same : ∀ i, i < E → T'.getD i default = T.getD i default
  inner : ∀ i, i < E → (T.getD i default).k ≠ 0
  k0 : (T.getD E default).k = 0
  x0 : (T.getD E default).x = []
  p0 : (T.getD E default).p = A
  k0' : (T'.getD (T'.length - 1) default).k = 0
  x0' : (T'.getD (T'.length - 1) default).x = []
def PreR (E E' : Nat) (s s' : PS) : Prop := s'.er = s.er ∧ s'.pl = s.pl ∧ s'.dp = s.dp ∧ s'.nd.map un = s.nd.map un ∧ ((s.er = 0 ∧ s.i < E ∧ s'.i = s.i) ∨ (s.er ≠ 0 ∧ s.i = E ∧ s'.i = E'))
def PreL (E A : Nat) (s : PS) : Prop := (s.er = 0 ∧ s.i = E) ∨ (s.er ≠ 0 ∧ s.pl = A)

section
variable {src src' : List UInt8} {T T' : List Tok} {E A : Nat}
theorem pre_lost (h : Pre T T' E A) : LostP T (PreL E A) := by
  have hl := h.len
  refine ⟨?_, ?_, ?_, ?_⟩
  · intro s hs
    rcases hs with ⟨h1, h2⟩ | ⟨h1, h2⟩
    · have : nextS T s = s := if_neg (by omega)
      rw [this]
      exact .inl ⟨h1, h2⟩
    · unfold nextS
      split
      · exact .inr ⟨h1, h2⟩
      · exact .inr ⟨h1, h2⟩
  · intro s e hs he
    rcases hs with ⟨h1, h2⟩ | ⟨h1, h2⟩
    · have : failS T e s = { s with pl := (tokA T s).p, er := e, i := T.length - 1 } := if_pos h1
      rw [this]
      refine .inr ⟨by show e ≠ 0; omega, ?_⟩
      show (tokA T s).p = A
      unfold tokA
      rw [h2]
      exact h.p0
    · have : failS T e s = s := if_neg h1
      rw [this]
      exact .inr ⟨h1, h2⟩
  · intro s d hs
    exact hs
  · intro s n hs
    exact hs
theorem pre_tok (h : Pre T T' E A) {s s' : PS} (hs : PreR E (T'.length - 1) s s') : (tokA T' s').k = (tokA T s).k ∧ (tokA T' s').x = (tokA T s).x := by
  obtain ⟨_, _, _, _, ⟨h1, h2, h3⟩ | ⟨h1, h2, h3⟩⟩ := hs
  · unfold tokA
    rw [h3, h.same _ h2]
    exact ⟨rfl, rfl⟩
  · unfold tokA
    rw [h3, h2, h.k0, h.x0, h.k0', h.x0']
    exact ⟨rfl, rfl⟩
theorem pre_prim (h : Pre T T' E A) : Prim src src' T T' (PreR E (T'.length - 1)) (PreL E A) (fun x => x) (fun _ _ => True) where
  lost := pre_lost h
  is_ := fun s s' ts hs => by
    obtain ⟨h1, h2⟩ := pre_tok h hs
    unfold isS
    rw [h1, h2]
  tok := fun s s' hs => pre_tok h hs
  calls := fun s s' hs => by
    have ht := (pre_tok h hs).1
    obtain ⟨_, _, _, _, ⟨h1, h2, h3⟩ | ⟨h1, h2, h3⟩⟩ := hs
    · by_cases hk : (tokA T s).k = 3
      · by_cases hi : s.i + 1 < E
        · left
          unfold callsS
          rw [ht, h3, h.same _ hi]
        · right
          have he : s.i + 1 = E := by omega
          refine ⟨?_, hk, ?_⟩
          · unfold callsS
            rw [he, h.k0]
            simp
          · have hl := h.len
            have : nextS T s = { s with i := s.i + 1 } := if_pos (by omega)
            rw [this]
            exact .inl ⟨h1, he⟩
      · left
        unfold callsS
        rw [ht, decide_eq_false hk, Bool.false_and, Bool.false_and]
    · left
      unfold callsS
      have : (tokA T s).k = 0 := by unfold tokA; rw [h2]; exact h.k0
      rw [ht, this]
      rfl
  line := fun _ _ _ => trivial
  er := fun s s' hs => by rw [hs.1]
  next := fun s s' hs => by
    have hl := h.len
    have hl' := h.len'
    obtain ⟨a1, a2, a3, a4, ⟨h1, h2, h3⟩ | ⟨h1, h2, h3⟩⟩ := hs
    · have e1 : nextS T s = { s with i := s.i + 1 } := if_pos (by omega)
      have e2 : nextS T' s' = { s' with i := s'.i + 1 } := if_pos (by omega)
      rw [e1, e2]
      by_cases hi : s.i + 1 < E
      · exact .inr ⟨a1, a2, a3, a4, .inl ⟨h1, hi, by show s'.i + 1 = s.i + 1; omega⟩⟩
      · exact .inl (.inl ⟨h1, by show s.i + 1 = E; omega⟩)
    · have e1 : nextS T s = s := if_neg (by omega)
      have e2 : nextS T' s' = s' := if_neg (by omega)
      rw [e1, e2]
      exact .inr ⟨a1, a2, a3, a4, .inr ⟨h1, h2, h3⟩⟩
  fail := fun s s' e hs he => by
    have hl := h.len
    obtain ⟨a1, a2, a3, a4, ⟨h1, h2, h3⟩ | ⟨h1, h2, h3⟩⟩ := hs
    · have e1 : failS T e s = { s with pl := (tokA T s).p, er := e, i := T.length - 1 } := if_pos h1
      have e2 : failS T' e s' = { s' with pl := (tokA T' s').p, er := e, i := T'.length - 1 } := if_pos (by rw [a1]; exact h1)
      rw [e1, e2]
      refine .inr ⟨rfl, ?_, a3, a4, .inr ⟨by show e ≠ 0; omega, by show T.length - 1 = E; omega, rfl⟩⟩
      show (tokA T' s').p = (tokA T s).p
      unfold tokA
      rw [h3, h.same _ h2]
    · have e1 : failS T e s = s := if_neg h1
      have e2 : failS T' e s' = s' := if_neg (by rw [a1]; exact h1)
      rw [e1, e2]
      exact .inr ⟨a1, a2, a3, a4, .inr ⟨h1, h2, h3⟩⟩
  dp := fun s s' hs => by
    obtain ⟨a1, a2, a3, a4, a5⟩ := hs
    exact ⟨a3, fun d => ⟨a1, a2, rfl, a4, a5⟩⟩
  node := fun s s' k ln ln' n x l hs _ hb => by
    obtain ⟨a1, a2, a3, a4, a5⟩ := hs
    have hlen : s'.nd.length = s.nd.length := by have := congrArg List.length a4; rwa [List.length_map, List.length_map] at this
    refine .inr ⟨by omega, by rw [hlen], a1, a2, a3, ?_, a5⟩
    show (s'.nd ++ [_]).map un = (s.nd ++ [_]).map un
    rw [List.map_append, List.map_append, a4, List.map_id']
    rfl
theorem pre_zero (h : Pre T T' E A) : ∀ s s', PreR E (T'.length - 1) s s' → ((tokA T' s').k = 0 ↔ (tokA T s).k = 0) := fun s s' hs => by rw [(pre_tok h hs).1]

/-- What errors there are, and where. -/
def ErrL (T : List Tok) (s : PS) : Prop := s.i < T.length ∧ (s.er = 0 ∨ ((s.er = 20 ∨ s.er = 21) ∧ ∃ i, i < T.length ∧ s.pl = (T.getD i default).p))
theorem err_lost (T : List Tok) (hT : 0 < T.length) : LostP T (ErrL T) := by
  refine ⟨?_, ?_, ?_, ?_⟩
  · intro s hs
    obtain ⟨h1, h2⟩ := hs
    unfold nextS
    split
    · exact ⟨by show s.i + 1 < T.length; omega, h2⟩
    · exact ⟨h1, h2⟩
  · intro s e hs he
    obtain ⟨h1, h2⟩ := hs
    unfold failS
    split
    · exact ⟨by show T.length - 1 < T.length; omega, .inr ⟨he, s.i, h1, rfl⟩⟩
    · exact ⟨h1, h2⟩
  · intro s d hs; exact hs
  · intro s n hs; exact hs
end

theorem pre_of (a b : List UInt8) (ha : a.length ≤ 600) (hn : (lexL a 0).2 = none) (hb : (lexL (a ++ 10 :: b) 0).2 = none) (hl : (a ++ 10 :: b).length ≤ 900) : ∃ E, Pre (lexL a 0).1 (lexL (a ++ 10 :: b) 0).1 E a.length := by
  obtain ⟨init, h1, h2⟩ := lexL_both b a 0 hn
  have hB := lexL_endT (a ++ 10 :: b) hl hb
  obtain ⟨I, e, hI, hk, hx, _, hin⟩ := lex_tokL a.length a 0 (by omega) hn
  obtain ⟨I', e', hI', hk', hx', _, _⟩ := lex_tokL (a ++ 10 :: b).length (a ++ 10 :: b) 0 (by omega) hb
  obtain ⟨rfl, rfl⟩ : I = init ∧ e = ⟨0, [], 0 + a.length⟩ := by
    have := hI.symm.trans h1
    have h3 := List.append_inj' this rfl
    exact ⟨h3.1, List.singleton_inj.1 h3.2⟩
  have ne : (lexL b (0 + a.length + 1)).1 ≠ [] := by
    intro h0
    rw [h2, h0, List.append_nil] at hI'
    have h3 := congrArg (fun l : List Tok => l.getLast?) hI'
    simp only [List.getLast?_append, List.getLast?_singleton] at h3
    have h4 : I ≠ [] := by intro h; rw [h] at hI'; simp at hI'
    rw [List.getLast?_eq_some_getLast h4] at h3
    have h5 := hin _ (List.getLast_mem h4)
    simp at h3
    rw [h3] at h5
    exact h5.1 hk'
  refine ⟨I.length, ?_⟩
  have hE' : (lexL (a ++ 10 :: b) 0).1.length - 1 = I'.length := by rw [hI']; simp
  refine ⟨by rw [hI]; simp, ?_, hB.2.1, ?_, ?_, ?_, ?_, ?_, ?_, ?_⟩
  · rw [h2]
    show I.length < (I ++ _).length
    rw [List.length_append]
    have := List.length_pos_iff.mpr ne
    omega
  · intro i hi
    rw [h2, hI]
    show (I ++ _).getD i default = _
    rw [List.getD, List.getD, List.getElem?_append_left hi, List.getElem?_append_left hi]
  · intro i hi
    rw [hI, List.getD, List.getElem?_append_left hi, List.getElem?_eq_getElem hi]
    exact (hin _ (List.getElem_mem hi)).1
  · rw [hI]; simp [List.getD]
  · rw [hI]; simp [List.getD]
  · rw [hI]; simp [List.getD]
  · rw [hE', hI']; simpa [List.getD] using hk'
  · rw [hE', hI']; simpa [List.getD] using hx'

/-- What is refused at a token stays so, whatever stands behind it. -/
theorem refused (a b : List UInt8) (N : Nat) (hN : 6100 ≤ N) (p e : Nat) (h : allP N a = some (.inl (p, e))) (ha : a.length ≤ 600) (hn : (lexL a 0).2 = none) (he : e ≠ 4) :
    (e = 20 ∨ e = 21) ∧ (∃ i, i < (lexL a 0).1.length ∧ p = ((lexL a 0).1.getD i default).p) ∧ (p ≠ a.length → (a ++ 10 :: b).length ≤ 600 → (lexL (a ++ 10 :: b) 0).2 = none → allP N (a ++ 10 :: b) = some (.inl (p, e))) := by
  have hT := lexL_endT a (by omega) hn
  unfold allP at h
  rw [if_neg (by omega), hn] at h
  cases hm : fnsR a (lexL a 0).1 N N [] ⟨0, 0, 0, [], 0⟩ with
  | none => rw [hm] at h; cases h
  | some r =>
    rw [hm] at h
    obtain ⟨fs, s1⟩ := r
    have h : treeP fs s1 = .inl (p, e) := Option.some.inj h
    have h0 : s1.er ≠ 0 := by
      intro h0
      unfold treeP at h
      rw [if_pos h0] at h
      split at h
      · injection h with h
        injection h with h1 h2
        exact he h2.symm
      · cases h
    unfold treeP at h
    rw [if_neg h0] at h
    injection h with h
    injection h with hp he2
    have hE := mono_fns (src := a) (err_lost (lexL a 0).1 hT.1) N N [] ⟨0, 0, 0, [], 0⟩ fs s1 ⟨hT.1, .inl rfl⟩ hm
    obtain ⟨_, hE⟩ := hE
    rcases hE with hE | ⟨h1, i, hi, h2⟩
    · exact absurd hE h0
    · refine ⟨by rw [← he2]; exact h1, ⟨i, hi, by rw [← hp]; exact h2⟩, fun hpa hlen hb => ?_⟩
      obtain ⟨E, hpre⟩ := pre_of a b ha hn hb (by omega)
      have X := pre_prim (src := a) (src' := a ++ 10 :: b) hpre
      have notlost : ¬ PreL E a.length s1 := by
        rintro (⟨h3, _⟩ | ⟨_, h3⟩)
        · exact h0 h3
        · exact hpa (by rw [← hp]; exact h3)
      by_cases hE0 : 0 < E
      · rcases sq_fns X (pre_zero hpre) N N [] [] ⟨0, 0, 0, [], 0⟩ ⟨0, 0, 0, [], 0⟩ ⟨rfl, rfl, rfl, rfl, .inl ⟨rfl, hE0, rfl⟩⟩ trivial fs s1 hm with hl | ⟨fs', s1', h3, h4, _⟩
        · exact absurd hl notlost
        · unfold allP
          rw [if_neg (by omega), hb]
          show (fnsR (a ++ 10 :: b) (lexL (a ++ 10 :: b) 0).1 N N [] ⟨0, 0, 0, [], 0⟩).map (fun p => treeP p.1 p.2) = _
          rw [h3]
          show some (treeP fs' s1') = _
          unfold treeP
          rw [if_neg (by rw [h4.1]; exact h0), h4.1, h4.2.1, hp, he2]
      · have hl := mono_fns (src := a) X.lost N N [] ⟨0, 0, 0, [], 0⟩ fs s1 (.inl ⟨rfl, by show 0 = E; omega⟩) hm
        exact absurd hl notlost
end Go.Proofs.YtgelggdgbmldiaaGreatDoor

namespace Go.Proofs.YtgelggdgbmldiaaGreatDoor
open Go Go.RowKit Go.Shelf
set_option linter.unusedVariables false
set_option linter.unusedSimpArgs false

/-- What a lexer tells of a source. -/
def resX (l : List UInt8) : List Tok × Nat × Nat := if 600 < l.length then ([], 0, 4) else match (lexL l 0).2 with | none => ((lexL l 0).1, 0, 0) | some pe => ([], pe.1, pe.2)
theorem rlex_any (s : ByteArray) (hs : s.size ≤ 1000) (w : World) : Calls Tryz.prog 13 #[.string s] w fun e w' => ∃ A c, e = .returned (.tuple #[.slice A (resX s.data.toList).1.length c, .int .i64 ((resX s.data.toList).2.1 : Int), .int .i64 ((resX s.data.toList).2.2 : Int)]) ∧ RdT w' A (resX s.data.toList).1 ∧ Keeps (fun _ => False) w w' := by
  refine (rall_any s hs w).mono fun e w' ⟨h1, hk⟩ => ?_
  unfold resX
  by_cases hb : 600 < s.data.toList.length
  · rw [if_pos hb] at h1 ⊢
    exact ⟨none, 0, h1, fun h => absurd h (by simp), hk⟩
  · rw [if_neg hb] at h1 ⊢
    cases hl : (lexL s.data.toList 0).2 with
    | none =>
      rw [hl] at h1
      obtain ⟨A, c, h2, h3⟩ := h1
      exact ⟨A, c, h2, own_rdT h3.1 rfl, hk⟩
    | some pe =>
      rw [hl] at h1
      exact ⟨none, 0, h1, fun h => absurd h (by simp), hk⟩
/-- An error of the lexer's is the parser's, too. -/
theorem lex_first {N : Nat} {l : List UInt8} {res : Res} (h : allP N l = some res) : (resX l).2.2 ≠ 0 → erOf res = (resX l).2.2 := by
  unfold allP at h
  unfold resX
  split at h
  · rename_i hb
    rw [if_pos hb]
    obtain rfl := Option.some.inj h
    intro _; rfl
  · rename_i hb
    rw [if_neg hb]
    cases hl : (lexL l 0).2 with
    | none => intro h; exact absurd rfl h
    | some pe =>
      rw [hl] at h
      obtain rfl := Option.some.inj h
      intro _; rfl
/-- What is refused, where the lexer does not refuse it. -/
theorem refused_at (a b : List UInt8) {res : Res} (h : allP 6100 a = some res) (hx : (resX a).2.2 = 0) (he : erOf res ≠ 0) (hb : (a ++ 10 :: b).length ≤ 1000) :
    (erOf res = 4 ∧ atOf res = 0) ∨ (erOf res ≠ 4 ∧ (erOf res = 20 ∨ erOf res = 21) ∧ (resX a).1.any (fun t => decide (t.p = atOf res)) = true ∧ (resX a).1.length ≤ 1000 ∧ (atOf res ≠ a.length → (resX (a ++ 10 :: b)).2.2 = 0 → allP 6100 (a ++ 10 :: b) = some (.inl (atOf res, erOf res)))) := by
  cases res with
  | inr t => exact absurd rfl he
  | inl pe =>
    obtain ⟨p, e⟩ := pe
    have he : e ≠ 0 := he
    have hlen : ¬ 600 < a.length := by
      intro h6
      unfold resX at hx
      rw [if_pos h6] at hx
      exact absurd hx (by decide)
    have hn : (lexL a 0).2 = none := by
      cases hl : (lexL a 0).2 with
      | none => rfl
      | some pe =>
        unfold resX at hx
        rw [if_neg hlen, hl] at hx
        have := (lexL_cut a 0 pe.1 pe.2 hl).2.2.2
        have hx : pe.2 = 0 := hx
        omega
    have hX : (resX a).1 = (lexL a 0).1 := by unfold resX; rw [if_neg hlen, hn]
    by_cases h4 : e = 4
    · left
      refine ⟨h4, ?_⟩
      unfold allP at h
      rw [if_neg hlen, hn] at h
      cases hm : fnsR a (lexL a 0).1 6100 6100 [] ⟨0, 0, 0, [], 0⟩ with
      | none => rw [hm] at h; cases h
      | some r =>
        rw [hm] at h
        obtain ⟨fs, s1⟩ := r
        have h : treeP fs s1 = .inl (p, e) := Option.some.inj h
        have hT := lexL_endT a (by omega) hn
        have hE := mono_fns (src := a) (err_lost (lexL a 0).1 hT.1) 6100 6100 [] ⟨0, 0, 0, [], 0⟩ fs s1 ⟨hT.1, .inl rfl⟩ hm
        unfold treeP at h
        split at h
        · split at h
          · injection h with h
            injection h with h1 h2
            exact h1.symm
          · cases h
        · injection h with h
          injection h with h1 h2
          rcases hE.2 with h5 | ⟨h5, _⟩
          · omega
          · omega
    · right
      obtain ⟨h1, ⟨i, hi, h2⟩, h3⟩ := refused a b 6100 (by omega) p e h (by omega) hn h4
      refine ⟨h4, h1, ?_, ?_, fun hp hx2 => ?_⟩
      · rw [hX, List.any_eq_true]
        refine ⟨(lexL a 0).1[i], List.getElem_mem hi, ?_⟩
        rw [decide_eq_true_eq]
        show _ = p
        rw [h2, List.getD, List.getElem?_eq_getElem hi]
        rfl
      · rw [hX]
        have := lexL_len a 0
        omega
      · have hl2 : ¬ 600 < (a ++ 10 :: b).length := by
          intro h6
          unfold resX at hx2
          rw [if_pos h6] at hx2
          exact absurd hx2 (by decide)
        refine h3 hp (by omega) ?_
        cases hl : (lexL (a ++ 10 :: b) 0).2 with
        | none => rfl
        | some pe =>
          unfold resX at hx2
          rw [if_neg hl2, hl] at hx2
          have := (lexL_cut (a ++ 10 :: b) 0 pe.1 pe.2 hl).2.2.2
          have hx2 : pe.2 = 0 := hx2
          omega

set_option maxRecDepth 100000 in
set_option maxHeartbeats 16000000 in
theorem refuses_walk (s more : ByteArray) (w : World) (he : ErrW w) : Calls Tryz.prog 4 #[.string s, .string more] w fun e w' => e = .returned (.bool true) ∧ Keeps (fun _ => False) w w' := by
  have HC := Lib.hid (shown_any w he)
  have HE := Lib.hid he
  clear he
  go_enter Tryz.func4, Tryz.ntmps4
  go_wp2_with fail
  refine HC.out.mono ?_
  rintro e w1 ⟨rfl, k1⟩
  have K1 := Lib.hid k1
  have SC := Lib.hid (short_any s w1)
  clear HC k1
  go_wp2_with fail
  refine SC.out.mono ?_
  rintro e w2 ⟨⟨t, ht, rfl⟩, rfl⟩
  have HT := Lib.hid ht
  clear SC ht
  by_cases h : 60 < more.size
  · have hI : (60 : Int) < (more.size : Int) := by omega
    have hI2 : (60 : Int) ≤ (more.size : Int) := by omega
    have hd : decide ((60 : Int) < (more.size : Int)) = true := decide_eq_true hI
    obtain ⟨m, hm⟩ : ∃ m, m = more.extract 0 60 := ⟨_, rfl⟩
    have HMS := Lib.hid (show m.size ≤ 60 by rw [hm, ByteArray.size_extract]; omega)
    clear h
    go_upto_region 5 with fail
    rw [← hm]
    clear hI hI2 hd hm
    obtain ⟨res, hres⟩ := allP_some t.data.toList 6100 (Nat.le_refl _)
    have HRES := Lib.hid hres
    have AC := Lib.hid (src_any t (by have := HT.out; omega) res hres w2 (HE.out.keep K1.out))
    have LC : Hid (∀ w3, Calls Tryz.prog 13 #[.string t] w3 fun e w' => ∃ A c, e = .returned (.tuple #[.slice A (resX t.data.toList).1.length c, .int .i64 ((resX t.data.toList).2.1 : Int), .int .i64 ((resX t.data.toList).2.2 : Int)]) ∧ RdT w' A (resX t.data.toList).1 ∧ Keeps (fun _ => False) w3 w') := Lib.hid fun w3 => rlex_any t (by have := HT.out; omega) w3
    obtain ⟨ax, hax⟩ : ∃ ax, ax = atOf res := ⟨_, rfl⟩
    obtain ⟨ex, hex⟩ : ∃ ex, ex = erOf res := ⟨_, rfl⟩
    obtain ⟨fx, hfx⟩ : ∃ fx, fx = (resX t.data.toList).2.2 := ⟨_, rfl⟩
    obtain ⟨T, hTT⟩ : ∃ T, T = (resX t.data.toList).1 := ⟨_, rfl⟩
    have HFIRST : Hid (fx ≠ 0 → ex = fx) := Lib.hid (by rw [hex, hfx]; exact lex_first hres)
    have HAT : Hid (fx = 0 → ex ≠ 0 → (t.data.toList ++ 10 :: m.data.toList).length ≤ 1000 → (ex = 4 ∧ ax = 0) ∨ (ex ≠ 4 ∧ (ex = 20 ∨ ex = 21) ∧ T.any (fun u => decide (u.p = ax)) = true ∧ T.length ≤ 1000 ∧ (ax ≠ t.data.toList.length → (resX (t.data.toList ++ 10 :: m.data.toList)).2.2 = 0 → allP 6100 (t.data.toList ++ 10 :: m.data.toList) = some (.inl (ax, ex))))) := Lib.hid (by rw [hfx, hex, hax, hTT]; exact fun h1 h2 h3 => refused_at _ _ hres h1 h2 h3)
    rw [← hax, ← hex] at AC
    rw [← hfx, ← hTT] at LC
    obtain ⟨n, hn⟩ : ∃ n, n = T.length := ⟨_, rfl⟩
    rw [← hn] at LC
    have HN := Lib.hid hn
    generalize (ndsOf res).length = nm at AC
    generalize (fnsOf res).length = nk at AC
    clear hax hex hfx hTT hn hres HRES
    go_wp2_with fail
    refine AC.out.mono ?_
    rintro e w3 ⟨A, c, A', c', rfl, hTr, k3⟩
    have K3 := Lib.hid (K1.out.trans k3 (fun _ _ h => h))
    clear AC K1 k3 hTr
    go_upto_region 6 with fail
    have ka := Keeps.one w3 (.cells #[.slice A nm c, .slice A' nk c'] 27)
    obtain ⟨w4, hw⟩ : ∃ w4, w4 = w3.alloc (.cells #[.slice A nm c, .slice A' nk c'] 27) := ⟨_, rfl⟩
    rw [← hw] at ka ⊢
    have K4 := Lib.hid (K3.out.trans ka (fun _ _ h => h))
    have LD := Lib.hid (LC.out w4)
    generalize w3.heap.size = X4
    clear ka hw LC K3
    go_wp2_with fail
    refine LD.out.mono ?_
    rintro e w5 ⟨B, d, rfl, hR, k5⟩
    have K5 := Lib.hid (K4.out.trans k5 (fun _ _ h => h))
    have HR := Lib.hid hR
    clear LD k5 K4 hR
    by_cases hf : fx = 0
    · have HAT2 := Lib.hid (HAT.out hf)
      subst hf
      by_cases he0 : ex = 0
      · subst he0
        go_wp2_with fail
        go_ret
        exact ⟨rfl, K5.out⟩
      · have HA3 := Lib.hid (HAT2.out he0 (by have h1 := HT.out; have h2 := HMS.out; rw [List.length_append, List.length_cons, len_size, len_size]; omega))
        have hne : ((ex : Int) == 0) = false := by simp; omega
        clear he0 HAT HAT2 HFIRST
        go_upto_region 9 with fail
        rcases HA3.out with ⟨rfl, rfl⟩ | ⟨h4, h20, hany, hlen, hboth⟩
        · clear HA3 hne
          go_wp2_with fail
          go_ret
          exact ⟨rfl, K5.out⟩
        · have h4d : ((ex : Int) == 4) = false := by simp; omega
          have HANY := Lib.hid hany
          have HBOTH := Lib.hid hboth
          have H20 := Lib.hid h20
          have hnle : n ≤ 1000 := by rw [HN.out]; exact hlen
          clear HA3 hany hboth h4 h20 hlen
          go_upto_region 13 with fail
          clear h4d hne
          go_loopg [12, 13] n (fun k s12 s13 wr => ∃ (i : Nat) (bb : Bool), s12 = .bool bb ∧ s13 = .int .i64 i ∧ i + k = n ∧ bb = (T.take i).any (fun u => decide (u.p = ax)) ∧ wr = w5)
          case atStart => exact ⟨0, false, rfl, rfl, by omega, by simp, rfl⟩
          case round =>
            obtain ⟨i, bb, rfl, rfl, hik, hbb, rfl⟩ := hrel
            by_cases hin : i < n
            · have hinI : (i : Int) < (n : Int) := by omega
              have hd2 : decide ((i : Int) < (n : Int)) = true := decide_eq_true hinI
              have hi0 : (0 : Int) ≤ (i : Int) := by omega
              have hL : i < T.length := by rw [← HN.out]; exact hin
              have hi1 : IntKind.i64.wrap ((i : Int) + 1) = (i : Int) + 1 := IntWalk.i64_in _ (by omega)
              have hnx : (T.take (i + 1)).any (fun u => decide (u.p = ax)) = ((T.take i).any (fun u => decide (u.p = ax)) || decide ((T.getD i default).p = ax)) := by
                rw [List.take_succ_eq_append_getElem hL, List.any_append, List.getD, List.getElem?_eq_getElem hL]
                simp
              have HNX := Lib.hid hnx
              have HBB := Lib.hid hbb
              have HIK := Lib.hid hik
              have HIN := Lib.hid hin
              clear hnx hbb hik
              cases bb with
              | true =>
                go_wp2_with fail
                go_roundg (gk - 1)
                case measure => go_light; have h1 := HIK.out; have h2 := HIN.out; omega
                case rel => exact ⟨i + 1, true, rfl, by go_num, by have h1 := HIK.out; have h2 := HIN.out; go_light; omega, by rw [HNX.out, ← HBB.out]; rfl, rfl⟩
              | false =>
                obtain ⟨bk, off, rfl, hc⟩ := HR.out (by omega)
                have e2 := (hc i hL).2.2
                obtain ⟨q, hq⟩ : ∃ q, q = (T.getD i default).p := ⟨_, rfl⟩
                rw [← hq] at e2
                have HQ := Lib.hid hq
                clear hc hq
                by_cases h3 : q = ax
                · have h3q : ((q : Int) == (ax : Int)) = true := by rw [h3]; simp
                  have H3 := Lib.hid h3
                  clear h3
                  go_wp2_with fail
                  go_roundg (gk - 1)
                  case measure => go_light; have h1 := HIK.out; have h2 := HIN.out; omega
                  case rel => exact ⟨i + 1, true, rfl, by go_num, by have h1 := HIK.out; have h2 := HIN.out; go_light; omega, by rw [HNX.out, ← HBB.out, ← HQ.out, decide_eq_true H3.out]; rfl, rfl⟩
                · have h3q : ((q : Int) == (ax : Int)) = false := by simp; omega
                  have H3 := Lib.hid h3
                  clear h3
                  go_wp2_with fail
                  go_roundg (gk - 1)
                  case measure => go_light; have h1 := HIK.out; have h2 := HIN.out; omega
                  case rel => exact ⟨i + 1, false, rfl, by go_num, by have h1 := HIK.out; have h2 := HIN.out; go_light; omega, by rw [HNX.out, ← HBB.out, ← HQ.out, decide_eq_false H3.out]; rfl, rfl⟩
            · obtain rfl : i = n := by omega
              have hinI : ¬ (i : Int) < (i : Int) := by omega
              have hd2 : decide ((i : Int) < (i : Int)) = false := decide_eq_false hinI
              obtain rfl : bb = true := by rw [hbb, List.take_of_length_le (by rw [← HN.out]; exact Nat.le_refl _)]; exact HANY.out
              have hu20 : ((ex : Int) != 20 && (ex : Int) != 21) = false := by
                rcases H20.out with h | h <;> rw [h] <;> decide
              have key : ((ex : Int) != 20) = false ∨ (((ex : Int) != 20) = true ∧ ((ex : Int) != 21) = false) := by
                rcases H20.out with h | h
                · left; rw [h]; decide
                · right; rw [h]; exact ⟨by decide, by decide⟩
              clear hin hik hbb hu20
              have tail : ∀ (u : Unit), True := fun _ => trivial
              obtain ⟨tsz, htsz⟩ : ∃ tsz, tsz = t.size := ⟨_, rfl⟩
              by_cases hat : (ax : Int) = (t.size : Int)
              · have hatd : ((ax : Int) == (t.size : Int)) = true := by rw [hat]; simp
                clear hat htsz
                rcases key with hk1 | ⟨hk1, hk2⟩
                · go_wp2_with fail
                  go_ret
                  exact ⟨rfl, K5.out⟩
                · go_wp2_with fail
                  go_ret
                  exact ⟨rfl, K5.out⟩
              · have hatd : ((ax : Int) == (t.size : Int)) = false := by simp; omega
                obtain ⟨Z, hZ⟩ : ∃ Z, Z = (t ++ { data := #[10] } : ByteArray) ++ m := ⟨_, rfl⟩
                have hZs : Z.size ≤ 800 := by rw [hZ, ByteArray.size_append, ByteArray.size_append]; have h1 := HT.out; have h2 := HMS.out; show t.size + 1 + m.size ≤ 800; omega
                have hZl : Z.data.toList = t.data.toList ++ 10 :: m.data.toList := by rw [hZ]; simp [ByteArray.data_append]
                have HZ := Lib.hid hZ
                have HZS := Lib.hid hZs
                have HZL := Lib.hid hZl
                have hm1 : ¬ 9223372036854775807 < t.size + 1 := by have h1 := HT.out; omega
                have hm2 : ¬ 9223372036854775807 < t.size + 1 + m.size := by have h1 := HT.out; have h2 := HMS.out; omega
                have HB2 : Hid ((resX Z.data.toList).2.2 = 0 → allP 6100 Z.data.toList = some (.inl (ax, ex))) := Lib.hid (by rw [hZl]; exact HBOTH.out (by rw [len_size]; omega))
                have LZ := Lib.hid (rlex_any Z (by omega) wr)
                obtain ⟨gx, hgx⟩ : ∃ gx, gx = (resX Z.data.toList).2.2 := ⟨_, rfl⟩
                rw [← hgx] at LZ HB2
                generalize (resX Z.data.toList).1.length = zn at LZ
                generalize (resX Z.data.toList).1 = zt at LZ
                generalize ((resX Z.data.toList).2.1 : Int) = zp at LZ
                clear hZ hZs hZl hat hgx htsz
                rcases key with hk1 | ⟨hk1, hk2⟩
                · go_wp2_with fail
                  rw [← HZ.out]
                  refine LZ.out.mono ?_
                  rintro e w7 ⟨C, cz, rfl, _, k7⟩
                  have K7 := Lib.hid (K5.out.trans k7 (fun _ _ h => h))
                  clear LZ k7
                  by_cases hg : gx = 0
                  · have HB3 := Lib.hid (HB2.out hg)
                    have PC := Lib.hid (src_any Z (by have := HZS.out; omega) _ HB3.out w7 (HE.out.keep K7.out))
                    subst hg
                    clear HB2
                    go_wp2_with fail
                    refine PC.out.mono ?_
                    rintro e w8 ⟨C1, c1, C2, c2, rfl, _, k8⟩
                    have K8 := Lib.hid (K7.out.trans k8 (fun _ _ h => h))
                    have ea : (atOf (.inl (ax, ex) : Res) : Int) = (ax : Int) := rfl
                    have ee : (erOf (.inl (ax, ex) : Res) : Int) = (ex : Int) := rfl
                    rw [ea, ee]
                    have ka := Keeps.one w8 (.cells #[.slice C1 (ndsOf (.inl (ax, ex) : Res)).length c1, .slice C2 (fnsOf (.inl (ax, ex) : Res)).length c2] 27)
                    have K9 := Lib.hid (K8.out.trans ka (fun _ _ h => h))
                    clear PC k8 ka ea ee
                    go_wp2_with fail
                    go_ret
                    exact ⟨rfl, K9.out⟩
                  · have hgd : ((gx : Int) != 0) = true := by simp; omega
                    clear hg
                    go_wp2_with fail
                    go_ret
                    exact ⟨rfl, K7.out⟩
                · go_wp2_with fail
                  rw [← HZ.out]
                  refine LZ.out.mono ?_
                  rintro e w7 ⟨C, cz, rfl, _, k7⟩
                  have K7 := Lib.hid (K5.out.trans k7 (fun _ _ h => h))
                  clear LZ k7
                  by_cases hg : gx = 0
                  · have HB3 := Lib.hid (HB2.out hg)
                    have PC := Lib.hid (src_any Z (by have := HZS.out; omega) _ HB3.out w7 (HE.out.keep K7.out))
                    subst hg
                    clear HB2
                    go_wp2_with fail
                    refine PC.out.mono ?_
                    rintro e w8 ⟨C1, c1, C2, c2, rfl, _, k8⟩
                    have K8 := Lib.hid (K7.out.trans k8 (fun _ _ h => h))
                    have ea : (atOf (.inl (ax, ex) : Res) : Int) = (ax : Int) := rfl
                    have ee : (erOf (.inl (ax, ex) : Res) : Int) = (ex : Int) := rfl
                    rw [ea, ee]
                    have ka := Keeps.one w8 (.cells #[.slice C1 (ndsOf (.inl (ax, ex) : Res)).length c1, .slice C2 (fnsOf (.inl (ax, ex) : Res)).length c2] 27)
                    have K9 := Lib.hid (K8.out.trans ka (fun _ _ h => h))
                    clear PC k8 ka ea ee
                    go_wp2_with fail
                    go_ret
                    exact ⟨rfl, K9.out⟩
                  · have hgd : ((gx : Int) != 0) = true := by simp; omega
                    clear hg
                    go_wp2_with fail
                    go_ret
                    exact ⟨rfl, K7.out⟩
    · have hee : ex = fx := HFIRST.out hf
      have q1 : ((fx : Int) == 0) = false := by simp; omega
      have q2 : ((fx : Int) != 0) = true := by simp; omega
      have q3 : ((fx : Int) == (fx : Int)) = true := by simp
      subst hee
      clear hf HFIRST HAT
      go_wp2_with fail
      go_ret
      exact ⟨rfl, K5.out⟩
  · have hI : ¬ (60 : Int) < (more.size : Int) := by omega
    have hd : decide ((60 : Int) < (more.size : Int)) = false := decide_eq_false hI
    have HMS := Lib.hid (show more.size ≤ 60 by omega)
    clear h
    go_upto_region 5 with fail
    clear hI hd
    generalize more = m at *
    obtain ⟨res, hres⟩ := allP_some t.data.toList 6100 (Nat.le_refl _)
    have HRES := Lib.hid hres
    have AC := Lib.hid (src_any t (by have := HT.out; omega) res hres w2 (HE.out.keep K1.out))
    have LC : Hid (∀ w3, Calls Tryz.prog 13 #[.string t] w3 fun e w' => ∃ A c, e = .returned (.tuple #[.slice A (resX t.data.toList).1.length c, .int .i64 ((resX t.data.toList).2.1 : Int), .int .i64 ((resX t.data.toList).2.2 : Int)]) ∧ RdT w' A (resX t.data.toList).1 ∧ Keeps (fun _ => False) w3 w') := Lib.hid fun w3 => rlex_any t (by have := HT.out; omega) w3
    obtain ⟨ax, hax⟩ : ∃ ax, ax = atOf res := ⟨_, rfl⟩
    obtain ⟨ex, hex⟩ : ∃ ex, ex = erOf res := ⟨_, rfl⟩
    obtain ⟨fx, hfx⟩ : ∃ fx, fx = (resX t.data.toList).2.2 := ⟨_, rfl⟩
    obtain ⟨T, hTT⟩ : ∃ T, T = (resX t.data.toList).1 := ⟨_, rfl⟩
    have HFIRST : Hid (fx ≠ 0 → ex = fx) := Lib.hid (by rw [hex, hfx]; exact lex_first hres)
    have HAT : Hid (fx = 0 → ex ≠ 0 → (t.data.toList ++ 10 :: m.data.toList).length ≤ 1000 → (ex = 4 ∧ ax = 0) ∨ (ex ≠ 4 ∧ (ex = 20 ∨ ex = 21) ∧ T.any (fun u => decide (u.p = ax)) = true ∧ T.length ≤ 1000 ∧ (ax ≠ t.data.toList.length → (resX (t.data.toList ++ 10 :: m.data.toList)).2.2 = 0 → allP 6100 (t.data.toList ++ 10 :: m.data.toList) = some (.inl (ax, ex))))) := Lib.hid (by rw [hfx, hex, hax, hTT]; exact fun h1 h2 h3 => refused_at _ _ hres h1 h2 h3)
    rw [← hax, ← hex] at AC
    rw [← hfx, ← hTT] at LC
    obtain ⟨n, hn⟩ : ∃ n, n = T.length := ⟨_, rfl⟩
    rw [← hn] at LC
    have HN := Lib.hid hn
    generalize (ndsOf res).length = nm at AC
    generalize (fnsOf res).length = nk at AC
    clear hax hex hfx hTT hn hres HRES
    go_wp2_with fail
    refine AC.out.mono ?_
    rintro e w3 ⟨A, c, A', c', rfl, hTr, k3⟩
    have K3 := Lib.hid (K1.out.trans k3 (fun _ _ h => h))
    clear AC K1 k3 hTr
    go_upto_region 6 with fail
    have ka := Keeps.one w3 (.cells #[.slice A nm c, .slice A' nk c'] 27)
    obtain ⟨w4, hw⟩ : ∃ w4, w4 = w3.alloc (.cells #[.slice A nm c, .slice A' nk c'] 27) := ⟨_, rfl⟩
    rw [← hw] at ka ⊢
    have K4 := Lib.hid (K3.out.trans ka (fun _ _ h => h))
    have LD := Lib.hid (LC.out w4)
    generalize w3.heap.size = X4
    clear ka hw LC K3
    go_wp2_with fail
    refine LD.out.mono ?_
    rintro e w5 ⟨B, d, rfl, hR, k5⟩
    have K5 := Lib.hid (K4.out.trans k5 (fun _ _ h => h))
    have HR := Lib.hid hR
    clear LD k5 K4 hR
    by_cases hf : fx = 0
    · have HAT2 := Lib.hid (HAT.out hf)
      subst hf
      by_cases he0 : ex = 0
      · subst he0
        go_wp2_with fail
        go_ret
        exact ⟨rfl, K5.out⟩
      · have HA3 := Lib.hid (HAT2.out he0 (by have h1 := HT.out; have h2 := HMS.out; rw [List.length_append, List.length_cons, len_size, len_size]; omega))
        have hne : ((ex : Int) == 0) = false := by simp; omega
        clear he0 HAT HAT2 HFIRST
        go_upto_region 9 with fail
        rcases HA3.out with ⟨rfl, rfl⟩ | ⟨h4, h20, hany, hlen, hboth⟩
        · clear HA3 hne
          go_wp2_with fail
          go_ret
          exact ⟨rfl, K5.out⟩
        · have h4d : ((ex : Int) == 4) = false := by simp; omega
          have HANY := Lib.hid hany
          have HBOTH := Lib.hid hboth
          have H20 := Lib.hid h20
          have hnle : n ≤ 1000 := by rw [HN.out]; exact hlen
          clear HA3 hany hboth h4 h20 hlen
          go_upto_region 13 with fail
          clear h4d hne
          go_loopg [12, 13] n (fun k s12 s13 wr => ∃ (i : Nat) (bb : Bool), s12 = .bool bb ∧ s13 = .int .i64 i ∧ i + k = n ∧ bb = (T.take i).any (fun u => decide (u.p = ax)) ∧ wr = w5)
          case atStart => exact ⟨0, false, rfl, rfl, by omega, by simp, rfl⟩
          case round =>
            obtain ⟨i, bb, rfl, rfl, hik, hbb, rfl⟩ := hrel
            by_cases hin : i < n
            · have hinI : (i : Int) < (n : Int) := by omega
              have hd2 : decide ((i : Int) < (n : Int)) = true := decide_eq_true hinI
              have hi0 : (0 : Int) ≤ (i : Int) := by omega
              have hL : i < T.length := by rw [← HN.out]; exact hin
              have hi1 : IntKind.i64.wrap ((i : Int) + 1) = (i : Int) + 1 := IntWalk.i64_in _ (by omega)
              have hnx : (T.take (i + 1)).any (fun u => decide (u.p = ax)) = ((T.take i).any (fun u => decide (u.p = ax)) || decide ((T.getD i default).p = ax)) := by
                rw [List.take_succ_eq_append_getElem hL, List.any_append, List.getD, List.getElem?_eq_getElem hL]
                simp
              have HNX := Lib.hid hnx
              have HBB := Lib.hid hbb
              have HIK := Lib.hid hik
              have HIN := Lib.hid hin
              clear hnx hbb hik
              cases bb with
              | true =>
                go_wp2_with fail
                go_roundg (gk - 1)
                case measure => go_light; have h1 := HIK.out; have h2 := HIN.out; omega
                case rel => exact ⟨i + 1, true, rfl, by go_num, by have h1 := HIK.out; have h2 := HIN.out; go_light; omega, by rw [HNX.out, ← HBB.out]; rfl, rfl⟩
              | false =>
                obtain ⟨bk, off, rfl, hc⟩ := HR.out (by omega)
                have e2 := (hc i hL).2.2
                obtain ⟨q, hq⟩ : ∃ q, q = (T.getD i default).p := ⟨_, rfl⟩
                rw [← hq] at e2
                have HQ := Lib.hid hq
                clear hc hq
                by_cases h3 : q = ax
                · have h3q : ((q : Int) == (ax : Int)) = true := by rw [h3]; simp
                  have H3 := Lib.hid h3
                  clear h3
                  go_wp2_with fail
                  go_roundg (gk - 1)
                  case measure => go_light; have h1 := HIK.out; have h2 := HIN.out; omega
                  case rel => exact ⟨i + 1, true, rfl, by go_num, by have h1 := HIK.out; have h2 := HIN.out; go_light; omega, by rw [HNX.out, ← HBB.out, ← HQ.out, decide_eq_true H3.out]; rfl, rfl⟩
                · have h3q : ((q : Int) == (ax : Int)) = false := by simp; omega
                  have H3 := Lib.hid h3
                  clear h3
                  go_wp2_with fail
                  go_roundg (gk - 1)
                  case measure => go_light; have h1 := HIK.out; have h2 := HIN.out; omega
                  case rel => exact ⟨i + 1, false, rfl, by go_num, by have h1 := HIK.out; have h2 := HIN.out; go_light; omega, by rw [HNX.out, ← HBB.out, ← HQ.out, decide_eq_false H3.out]; rfl, rfl⟩
            · obtain rfl : i = n := by omega
              have hinI : ¬ (i : Int) < (i : Int) := by omega
              have hd2 : decide ((i : Int) < (i : Int)) = false := decide_eq_false hinI
              obtain rfl : bb = true := by rw [hbb, List.take_of_length_le (by rw [← HN.out]; exact Nat.le_refl _)]; exact HANY.out
              have hu20 : ((ex : Int) != 20 && (ex : Int) != 21) = false := by
                rcases H20.out with h | h <;> rw [h] <;> decide
              have key : ((ex : Int) != 20) = false ∨ (((ex : Int) != 20) = true ∧ ((ex : Int) != 21) = false) := by
                rcases H20.out with h | h
                · left; rw [h]; decide
                · right; rw [h]; exact ⟨by decide, by decide⟩
              clear hin hik hbb hu20
              have tail : ∀ (u : Unit), True := fun _ => trivial
              obtain ⟨tsz, htsz⟩ : ∃ tsz, tsz = t.size := ⟨_, rfl⟩
              by_cases hat : (ax : Int) = (t.size : Int)
              · have hatd : ((ax : Int) == (t.size : Int)) = true := by rw [hat]; simp
                clear hat htsz
                rcases key with hk1 | ⟨hk1, hk2⟩
                · go_wp2_with fail
                  go_ret
                  exact ⟨rfl, K5.out⟩
                · go_wp2_with fail
                  go_ret
                  exact ⟨rfl, K5.out⟩
              · have hatd : ((ax : Int) == (t.size : Int)) = false := by simp; omega
                obtain ⟨Z, hZ⟩ : ∃ Z, Z = (t ++ { data := #[10] } : ByteArray) ++ m := ⟨_, rfl⟩
                have hZs : Z.size ≤ 800 := by rw [hZ, ByteArray.size_append, ByteArray.size_append]; have h1 := HT.out; have h2 := HMS.out; show t.size + 1 + m.size ≤ 800; omega
                have hZl : Z.data.toList = t.data.toList ++ 10 :: m.data.toList := by rw [hZ]; simp [ByteArray.data_append]
                have HZ := Lib.hid hZ
                have HZS := Lib.hid hZs
                have HZL := Lib.hid hZl
                have hm1 : ¬ 9223372036854775807 < t.size + 1 := by have h1 := HT.out; omega
                have hm2 : ¬ 9223372036854775807 < t.size + 1 + m.size := by have h1 := HT.out; have h2 := HMS.out; omega
                have HB2 : Hid ((resX Z.data.toList).2.2 = 0 → allP 6100 Z.data.toList = some (.inl (ax, ex))) := Lib.hid (by rw [hZl]; exact HBOTH.out (by rw [len_size]; omega))
                have LZ := Lib.hid (rlex_any Z (by omega) wr)
                obtain ⟨gx, hgx⟩ : ∃ gx, gx = (resX Z.data.toList).2.2 := ⟨_, rfl⟩
                rw [← hgx] at LZ HB2
                generalize (resX Z.data.toList).1.length = zn at LZ
                generalize (resX Z.data.toList).1 = zt at LZ
                generalize ((resX Z.data.toList).2.1 : Int) = zp at LZ
                clear hZ hZs hZl hat hgx htsz
                rcases key with hk1 | ⟨hk1, hk2⟩
                · go_wp2_with fail
                  rw [← HZ.out]
                  refine LZ.out.mono ?_
                  rintro e w7 ⟨C, cz, rfl, _, k7⟩
                  have K7 := Lib.hid (K5.out.trans k7 (fun _ _ h => h))
                  clear LZ k7
                  by_cases hg : gx = 0
                  · have HB3 := Lib.hid (HB2.out hg)
                    have PC := Lib.hid (src_any Z (by have := HZS.out; omega) _ HB3.out w7 (HE.out.keep K7.out))
                    subst hg
                    clear HB2
                    go_wp2_with fail
                    refine PC.out.mono ?_
                    rintro e w8 ⟨C1, c1, C2, c2, rfl, _, k8⟩
                    have K8 := Lib.hid (K7.out.trans k8 (fun _ _ h => h))
                    have ea : (atOf (.inl (ax, ex) : Res) : Int) = (ax : Int) := rfl
                    have ee : (erOf (.inl (ax, ex) : Res) : Int) = (ex : Int) := rfl
                    rw [ea, ee]
                    have ka := Keeps.one w8 (.cells #[.slice C1 (ndsOf (.inl (ax, ex) : Res)).length c1, .slice C2 (fnsOf (.inl (ax, ex) : Res)).length c2] 27)
                    have K9 := Lib.hid (K8.out.trans ka (fun _ _ h => h))
                    clear PC k8 ka ea ee
                    go_wp2_with fail
                    go_ret
                    exact ⟨rfl, K9.out⟩
                  · have hgd : ((gx : Int) != 0) = true := by simp; omega
                    clear hg
                    go_wp2_with fail
                    go_ret
                    exact ⟨rfl, K7.out⟩
                · go_wp2_with fail
                  rw [← HZ.out]
                  refine LZ.out.mono ?_
                  rintro e w7 ⟨C, cz, rfl, _, k7⟩
                  have K7 := Lib.hid (K5.out.trans k7 (fun _ _ h => h))
                  clear LZ k7
                  by_cases hg : gx = 0
                  · have HB3 := Lib.hid (HB2.out hg)
                    have PC := Lib.hid (src_any Z (by have := HZS.out; omega) _ HB3.out w7 (HE.out.keep K7.out))
                    subst hg
                    clear HB2
                    go_wp2_with fail
                    refine PC.out.mono ?_
                    rintro e w8 ⟨C1, c1, C2, c2, rfl, _, k8⟩
                    have K8 := Lib.hid (K7.out.trans k8 (fun _ _ h => h))
                    have ea : (atOf (.inl (ax, ex) : Res) : Int) = (ax : Int) := rfl
                    have ee : (erOf (.inl (ax, ex) : Res) : Int) = (ex : Int) := rfl
                    rw [ea, ee]
                    have ka := Keeps.one w8 (.cells #[.slice C1 (ndsOf (.inl (ax, ex) : Res)).length c1, .slice C2 (fnsOf (.inl (ax, ex) : Res)).length c2] 27)
                    have K9 := Lib.hid (K8.out.trans ka (fun _ _ h => h))
                    clear PC k8 ka ea ee
                    go_wp2_with fail
                    go_ret
                    exact ⟨rfl, K9.out⟩
                  · have hgd : ((gx : Int) != 0) = true := by simp; omega
                    clear hg
                    go_wp2_with fail
                    go_ret
                    exact ⟨rfl, K7.out⟩
    · have hee : ex = fx := HFIRST.out hf
      have q1 : ((fx : Int) == 0) = false := by simp; omega
      have q2 : ((fx : Int) != 0) = true := by simp; omega
      have q3 : ((fx : Int) == (fx : Int)) = true := by simp
      subst hee
      clear hf HFIRST HAT
      go_wp2_with fail
      go_ret
      exact ⟨rfl, K5.out⟩

end Go.Proofs.YtgelggdgbmldiaaGreatDoor
