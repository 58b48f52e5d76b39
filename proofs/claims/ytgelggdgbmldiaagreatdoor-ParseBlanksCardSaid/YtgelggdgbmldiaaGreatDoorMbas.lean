/-
  Layer 2: a source, and more behind it: the same error at the same token. Written by an AI agent.
  Layer 2: two sources, one behind the other: the functions and nodes of both (data). Written by an AI agent.
  Layer 2: two sources, one behind the other (data, the whole). Written by an AI agent.
  Layer 2: a source whose tokens stand apart, each in a line of its own (data). Written by an AI agent.
-/
import Derived.Test.YtgelggdgbmldiaaGreatDoorMbar
import Derived.Test.YtgelggdgbmldiaaGreatDoorMbao
import Derived.Test.YtgelggdgbmldiaaGreatDoorMbaq
namespace Go.Proofs.YtgelggdgbmldiaaGreatDoor
set_option linter.unusedVariables false
set_option linter.unusedSimpArgs false

/-- A node without its line. -/
def un (n : Nd) : Nd := { n with ln := 0 }
/-- Two rows of tokens that are the same ahead of the first one's end. -/
structure Pre (T T' : List Tok) (E A : Nat) : Prop where
  len : T.length = E + 1
  len' : E < T'.length
  big : T'.length ≤ 1000
  same : ∀ i, i < E → T'.getD i default = T.getD i default
  inner : ∀ i, i < E → (T.getD i default).k ≠ 0
  k0 : (T.getD E default).k = 0
  x0 : (T.getD E default).x = []
  p0 : (T.getD E default).p = A
  k0' : (T'.getD (T'.length - 1) default).k = 0
  x0' : (T'.getD (T'.length - 1) default).x = []
def PreR (E E' : Nat) (s s' : PS) : Prop := s'.er = s.er ∧ s'.pl = s.pl ∧ s'.dp = s.dp ∧ s'.nd.map un = s.nd.map un ∧ ((s.er = 0 ∧ s.i < E ∧ s'.i = s.i) ∨ (s.er ≠ 0 ∧ s.i = E ∧ s'.i = E'))
def PreL (E A : Nat) (s : PS) : Prop := (s.er = 0 ∧ s.i = E) ∨ (s.er ≠ 0 ∧ s.pl = A)

section
variable {src src' : List UInt8} {T T' : List Tok} {E A : Nat}
theorem pre_lost (h : Pre T T' E A) : LostP T (PreL E A) := by
  have hl := h.len
  refine ⟨?_, ?_, ?_, ?_⟩
  · intro s hs
    rcases hs with ⟨h1, h2⟩ | ⟨h1, h2⟩
    · have : nextS T s = s := if_neg (by omega)
      rw [this]
      exact .inl ⟨h1, h2⟩
    · unfold nextS
      split
      · exact .inr ⟨h1, h2⟩
      · exact .inr ⟨h1, h2⟩
  · intro s e hs he
    rcases hs with ⟨h1, h2⟩ | ⟨h1, h2⟩
    · have : failS T e s = { s with pl := (tokA T s).p, er := e, i := T.length - 1 } := if_pos h1
      rw [this]
      refine .inr ⟨by show e ≠ 0; omega, ?_⟩
      show (tokA T s).p = A
      unfold tokA
      rw [h2]
      exact h.p0
    · have : failS T e s = s := if_neg h1
      rw [this]
      exact .inr ⟨h1, h2⟩
  · intro s d hs
    exact hs
  · intro s n hs
    exact hs
theorem pre_tok (h : Pre T T' E A) {s s' : PS} (hs : PreR E (T'.length - 1) s s') : (tokA T' s').k = (tokA T s).k ∧ (tokA T' s').x = (tokA T s).x := by
  obtain ⟨_, _, _, _, ⟨h1, h2, h3⟩ | ⟨h1, h2, h3⟩⟩ := hs
  · unfold tokA
    rw [h3, h.same _ h2]
    exact ⟨rfl, rfl⟩
  · unfold tokA
    rw [h3, h2, h.k0, h.x0, h.k0', h.x0']
    exact ⟨rfl, rfl⟩
theorem pre_prim (h : Pre T T' E A) : Prim src src' T T' (PreR E (T'.length - 1)) (PreL E A) (fun x => x) (fun _ _ => True) where
  lost := pre_lost h
  is_ := fun s s' ts hs => by
    obtain ⟨h1, h2⟩ := pre_tok h hs
    unfold isS
    rw [h1, h2]
  tok := fun s s' hs => pre_tok h hs
  calls := fun s s' hs => by
    have ht := (pre_tok h hs).1
    obtain ⟨_, _, _, _, ⟨h1, h2, h3⟩ | ⟨h1, h2, h3⟩⟩ := hs
    · by_cases hk : (tokA T s).k = 3
      · by_cases hi : s.i + 1 < E
        · left
          unfold callsS
          rw [ht, h3, h.same _ hi]
        · right
          have he : s.i + 1 = E := by omega
          refine ⟨?_, hk, ?_⟩
          · unfold callsS
            rw [he, h.k0]
            simp
          · have hl := h.len
            have : nextS T s = { s with i := s.i + 1 } := if_pos (by omega)
            rw [this]
            exact .inl ⟨h1, he⟩
      · left
        unfold callsS
        rw [ht, decide_eq_false hk, Bool.false_and, Bool.false_and]
    · left
      unfold callsS
      have : (tokA T s).k = 0 := by unfold tokA; rw [h2]; exact h.k0
      rw [ht, this]
      rfl
  line := fun _ _ _ => trivial
  er := fun s s' hs => by rw [hs.1]
  next := fun s s' hs => by
    have hl := h.len
    have hl' := h.len'
    obtain ⟨a1, a2, a3, a4, ⟨h1, h2, h3⟩ | ⟨h1, h2, h3⟩⟩ := hs
    · have e1 : nextS T s = { s with i := s.i + 1 } := if_pos (by omega)
      have e2 : nextS T' s' = { s' with i := s'.i + 1 } := if_pos (by omega)
      rw [e1, e2]
      by_cases hi : s.i + 1 < E
      · exact .inr ⟨a1, a2, a3, a4, .inl ⟨h1, hi, by show s'.i + 1 = s.i + 1; omega⟩⟩
      · exact .inl (.inl ⟨h1, by show s.i + 1 = E; omega⟩)
    · have e1 : nextS T s = s := if_neg (by omega)
      have e2 : nextS T' s' = s' := if_neg (by omega)
      rw [e1, e2]
      exact .inr ⟨a1, a2, a3, a4, .inr ⟨h1, h2, h3⟩⟩
  fail := fun s s' e hs he => by
    have hl := h.len
    obtain ⟨a1, a2, a3, a4, ⟨h1, h2, h3⟩ | ⟨h1, h2, h3⟩⟩ := hs
    · have e1 : failS T e s = { s with pl := (tokA T s).p, er := e, i := T.length - 1 } := if_pos h1
      have e2 : failS T' e s' = { s' with pl := (tokA T' s').p, er := e, i := T'.length - 1 } := if_pos (by rw [a1]; exact h1)
      rw [e1, e2]
      refine .inr ⟨rfl, ?_, a3, a4, .inr ⟨by show e ≠ 0; omega, by show T.length - 1 = E; omega, rfl⟩⟩
      show (tokA T' s').p = (tokA T s).p
      unfold tokA
      rw [h3, h.same _ h2]
    · have e1 : failS T e s = s := if_neg h1
      have e2 : failS T' e s' = s' := if_neg (by rw [a1]; exact h1)
      rw [e1, e2]
      exact .inr ⟨a1, a2, a3, a4, .inr ⟨h1, h2, h3⟩⟩
  dp := fun s s' hs => by
    obtain ⟨a1, a2, a3, a4, a5⟩ := hs
    exact ⟨a3, fun d => ⟨a1, a2, rfl, a4, a5⟩⟩
  node := fun s s' k ln ln' n x l hs _ hb => by
    obtain ⟨a1, a2, a3, a4, a5⟩ := hs
    have hlen : s'.nd.length = s.nd.length := by have := congrArg List.length a4; rwa [List.length_map, List.length_map] at this
    refine .inr ⟨by omega, by rw [hlen], a1, a2, a3, ?_, a5⟩
    show (s'.nd ++ [_]).map un = (s.nd ++ [_]).map un
    rw [List.map_append, List.map_append, a4, List.map_id']
    rfl
theorem pre_zero (h : Pre T T' E A) : ∀ s s', PreR E (T'.length - 1) s s' → ((tokA T' s').k = 0 ↔ (tokA T s).k = 0) := fun s s' hs => by rw [(pre_tok h hs).1]

/-- What errors there are, and where. -/
def ErrL (T : List Tok) (s : PS) : Prop := s.i < T.length ∧ (s.er = 0 ∨ ((s.er = 20 ∨ s.er = 21) ∧ ∃ i, i < T.length ∧ s.pl = (T.getD i default).p))
theorem err_lost (T : List Tok) (hT : 0 < T.length) : LostP T (ErrL T) := by
  refine ⟨?_, ?_, ?_, ?_⟩
  · intro s hs
    obtain ⟨h1, h2⟩ := hs
    unfold nextS
    split
    · exact ⟨by show s.i + 1 < T.length; omega, h2⟩
    · exact ⟨h1, h2⟩
  · intro s e hs he
    obtain ⟨h1, h2⟩ := hs
    unfold failS
    split
    · exact ⟨by show T.length - 1 < T.length; omega, .inr ⟨he, s.i, h1, rfl⟩⟩
    · exact ⟨h1, h2⟩
  · intro s d hs; exact hs
  · intro s n hs; exact hs
end

theorem pre_of (a b : List UInt8) (ha : a.length ≤ 600) (hn : (lexL a 0).2 = none) (hb : (lexL (a ++ 10 :: b) 0).2 = none) (hl : (a ++ 10 :: b).length ≤ 900) : ∃ E, Pre (lexL a 0).1 (lexL (a ++ 10 :: b) 0).1 E a.length := by
  obtain ⟨init, h1, h2⟩ := lexL_both b a 0 hn
  have hB := lexL_endT (a ++ 10 :: b) hl hb
  obtain ⟨I, e, hI, hk, hx, _, hin⟩ := lex_tokL a.length a 0 (by omega) hn
  obtain ⟨I', e', hI', hk', hx', _, _⟩ := lex_tokL (a ++ 10 :: b).length (a ++ 10 :: b) 0 (by omega) hb
  obtain ⟨rfl, rfl⟩ : I = init ∧ e = ⟨0, [], 0 + a.length⟩ := by
    have := hI.symm.trans h1
    have h3 := List.append_inj' this rfl
    exact ⟨h3.1, List.singleton_inj.1 h3.2⟩
  have ne : (lexL b (0 + a.length + 1)).1 ≠ [] := by
    intro h0
    rw [h2, h0, List.append_nil] at hI'
    have h3 := congrArg (fun l : List Tok => l.getLast?) hI'
    simp only [List.getLast?_append, List.getLast?_singleton] at h3
    have h4 : I ≠ [] := by intro h; rw [h] at hI'; simp at hI'
    rw [List.getLast?_eq_some_getLast h4] at h3
    have h5 := hin _ (List.getLast_mem h4)
    simp at h3
    rw [h3] at h5
    exact h5.1 hk'
  refine ⟨I.length, ?_⟩
  have hE' : (lexL (a ++ 10 :: b) 0).1.length - 1 = I'.length := by rw [hI']; simp
  refine ⟨by rw [hI]; simp, ?_, hB.2.1, ?_, ?_, ?_, ?_, ?_, ?_, ?_⟩
  · rw [h2]
    show I.length < (I ++ _).length
    rw [List.length_append]
    have := List.length_pos_iff.mpr ne
    omega
  · intro i hi
    rw [h2, hI]
    show (I ++ _).getD i default = _
    rw [List.getD, List.getD, List.getElem?_append_left hi, List.getElem?_append_left hi]
  · intro i hi
    rw [hI, List.getD, List.getElem?_append_left hi, List.getElem?_eq_getElem hi]
    exact (hin _ (List.getElem_mem hi)).1
  · rw [hI]; simp [List.getD]
  · rw [hI]; simp [List.getD]
  · rw [hI]; simp [List.getD]
  · rw [hE', hI']; simpa [List.getD] using hk'
  · rw [hE', hI']; simpa [List.getD] using hx'

/-- What is refused at a token stays so, whatever stands behind it. -/
theorem refused (a b : List UInt8) (N : Nat) (hN : 6100 ≤ N) (p e : Nat) (h : allP N a = some (.inl (p, e))) (ha : a.length ≤ 600) (hn : (lexL a 0).2 = none) (he : e ≠ 4) :
    (e = 20 ∨ e = 21) ∧ (∃ i, i < (lexL a 0).1.length ∧ p = ((lexL a 0).1.getD i default).p) ∧ (p ≠ a.length → (a ++ 10 :: b).length ≤ 600 → (lexL (a ++ 10 :: b) 0).2 = none → allP N (a ++ 10 :: b) = some (.inl (p, e))) := by
  have hT := lexL_endT a (by omega) hn
  unfold allP at h
  rw [if_neg (by omega), hn] at h
  cases hm : fnsR a (lexL a 0).1 N N [] ⟨0, 0, 0, [], 0⟩ with
  | none => rw [hm] at h; cases h
  | some r =>
    rw [hm] at h
    obtain ⟨fs, s1⟩ := r
    have h : treeP fs s1 = .inl (p, e) := Option.some.inj h
    have h0 : s1.er ≠ 0 := by
      intro h0
      unfold treeP at h
      rw [if_pos h0] at h
      split at h
      · injection h with h
        injection h with h1 h2
        exact he h2.symm
      · cases h
    unfold treeP at h
    rw [if_neg h0] at h
    injection h with h
    injection h with hp he2
    have hE := mono_fns (src := a) (err_lost (lexL a 0).1 hT.1) N N [] ⟨0, 0, 0, [], 0⟩ fs s1 ⟨hT.1, .inl rfl⟩ hm
    obtain ⟨_, hE⟩ := hE
    rcases hE with hE | ⟨h1, i, hi, h2⟩
    · exact absurd hE h0
    · refine ⟨by rw [← he2]; exact h1, ⟨i, hi, by rw [← hp]; exact h2⟩, fun hpa hlen hb => ?_⟩
      obtain ⟨E, hpre⟩ := pre_of a b ha hn hb (by omega)
      have X := pre_prim (src := a) (src' := a ++ 10 :: b) hpre
      have notlost : ¬ PreL E a.length s1 := by
        rintro (⟨h3, _⟩ | ⟨_, h3⟩)
        · exact h0 h3
        · exact hpa (by rw [← hp]; exact h3)
      by_cases hE0 : 0 < E
      · rcases sq_fns X (pre_zero hpre) N N [] [] ⟨0, 0, 0, [], 0⟩ ⟨0, 0, 0, [], 0⟩ ⟨rfl, rfl, rfl, rfl, .inl ⟨rfl, hE0, rfl⟩⟩ trivial fs s1 hm with hl | ⟨fs', s1', h3, h4, _⟩
        · exact absurd hl notlost
        · unfold allP
          rw [if_neg (by omega), hb]
          show (fnsR (a ++ 10 :: b) (lexL (a ++ 10 :: b) 0).1 N N [] ⟨0, 0, 0, [], 0⟩).map (fun p => treeP p.1 p.2) = _
          rw [h3]
          show some (treeP fs' s1') = _
          unfold treeP
          rw [if_neg (by rw [h4.1]; exact h0), h4.1, h4.2.1, hp, he2]
      · have hl := mono_fns (src := a) X.lost N N [] ⟨0, 0, 0, [], 0⟩ fs s1 (.inl ⟨rfl, by show 0 = E; omega⟩) hm
        exact absurd hl notlost
end Go.Proofs.YtgelggdgbmldiaaGreatDoor

namespace Go.Proofs.YtgelggdgbmldiaaGreatDoor
set_option linter.unusedVariables false
set_option linter.unusedSimpArgs false

section
variable {src src' : List UInt8} {T T' : List Tok} {E A : Nat}
/-- Behind an error there is one. -/
theorem er_lost (T : List Tok) : LostP T (fun s => s.er ≠ 0) := by
  refine ⟨?_, ?_, ?_, ?_⟩
  · intro s hs
    unfold nextS
    split
    · exact hs
    · exact hs
  · intro s e hs he
    have : failS T e s = s := if_neg hs
    rw [this]
    exact hs
  · intro s d hs; exact hs
  · intro s n hs; exact hs
theorem want_at_end (h : Pre T T' E A) {s : PS} (he : s.er = 0) (hi : s.i = E) (x : List UInt8) : (wantS T x s).er ≠ 0 := by
  have hk : (tokA T s).k = 0 := by unfold tokA; rw [hi]; exact h.k0
  have hb : isS T [x] s = false := by unfold isS; rw [hk]; rfl
  have : wantS T x s = failS T 20 s := if_neg (by rw [hb]; decide)
  rw [this]
  have : failS T 20 s = { s with pl := (tokA T s).p, er := 20, i := T.length - 1 } := if_pos he
  rw [this]
  show (20 : Nat) ≠ 0
  decide
/-- A block at the end is none. -/
theorem block_lost (h : Pre T T' E A) {N : Nat} {st : PM Int} (hst : Mono (fun s => s.er ≠ 0) st) {s s1 : PS} {r : Int} (hl : PreL E A s) (e : blockM src T N st s = some (r, s1)) : s1.er ≠ 0 := by
  have L := er_lost T
  have rest : Mono (fun s => s.er ≠ 0) (do let l ← stmsR T st N []; shutM T [125]; nodeM ⟨18, lineS src T s, 0, [], []⟩ l : PM Int) := (mono_stms L hst N _).bind fun _ => (mono_shut L _).bind fun _ => Mono.node L _ _
  have e2 : (openM T [123] >>= fun _ => (do let l ← stmsR T st N []; shutM T [125]; nodeM ⟨18, lineS src T s, 0, [], []⟩ l : PM Int)) s = some (r, s1) := e
  rcases hl with ⟨h1, h2⟩ | ⟨h1, _⟩
  · obtain ⟨u, t, e3, e4⟩ := bind_out e2
    refine rest t r s1 ?_ e4
    have e3 : deepS 1 (openS T [123] s) = some (u, t) := e3
    have hk : (tokA T s).k = 0 := by unfold tokA; rw [h2]; exact h.k0
    have hb : isS T [[123]] s = false := by unfold isS; rw [hk]; rfl
    have ho : openS T [123] s = wantS T [123] s := by unfold openS; rw [hb, Bool.false_and, if_neg (by decide)]
    rw [ho] at e3
    have := want_at_end h h1 h2 [123]
    unfold deepS at e3
    split at e3
    · injection e3 with e3
      injection e3 with _ e5
      rw [← e5]
      exact this
    · cases e3
  · exact ((mono_open L [123]).bind fun _ => rest) s r s1 h1 e2
/-- A block that ends without an error is the same one with more behind it, also where it ends at the end. -/
theorem block_both (h : Pre T T' E A) {N : Nat} {st st' : PM Int} (hst : SqF (pre_prim (src := src) (src' := src') h) st st') (hm : Mono (PreL E A) st) {s s' s1 : PS} {r : Int} (hs : PreR E (T'.length - 1) s s') (e : blockM src T N st s = some (r, s1)) (h0 : s1.er = 0) :
    ∃ s1', blockM src' T' N st' s' = some (r, s1') ∧ s1'.i = s1.i ∧ s1'.pl = s1.pl ∧ s1'.er = 0 ∧ s1'.dp = s1.dp ∧ s1'.nd.map un = s1.nd.map un ∧ s1.i ≤ E := by
  have X := pre_prim (src := src) (src' := src') h
  have hlen := h.len
  have hlen' := h.len'
  have e2 : (openM T [123] >>= fun _ => stmsR T st N [] >>= fun l => shutM T [125] >>= fun _ => nodeM ⟨18, lineS src T s, 0, [], []⟩ l) s = some (r, s1) := e
  obtain ⟨u, t, e3, e4⟩ := bind_out e2
  obtain ⟨l, t2, e5, e6⟩ := bind_out e4
  obtain ⟨u2, t3, e7, e8⟩ := bind_out e6
  have L := er_lost T
  -- no error on the way
  have n3 : t3.er = 0 := by
    by_cases h3 : t3.er = 0
    · exact h3
    · exact absurd h0 (Mono.node L _ _ t3 r s1 h3 e8)
  have n2 : t2.er = 0 := by
    by_cases h3 : t2.er = 0
    · exact h3
    · exact absurd n3 (mono_shut L _ t2 u2 t3 h3 e7)
  have hop : SqAt (PreR E (T'.length - 1)) (PreL E A) (fun _ _ => True) (openM T [123]) (openM T' [123]) s s' := by
    have := SqAt.opens (RB := fun (_ _ : Unit) => True) X hs [123] (f := fun _ => pure ()) (f' := fun _ => pure ()) Mono.ret (fun t t' ht => SqAt.ret ht trivial)
    rwa [show (openM T [123] >>= fun _ => (pure () : PM Unit)) = openM T [123] from bind_pure _, show (openM T' [123] >>= fun _ => (pure () : PM Unit)) = openM T' [123] from bind_pure _] at this
  have lostEnd : ∀ v, PreL E A v → v.er = 0 → v.i = E := fun v hv hz => by
    rcases hv with ⟨_, h5⟩ | ⟨h5, _⟩
    · exact h5
    · exact absurd hz h5
  have notlost2 : ¬ PreL E A t2 := fun hl => by
    have hi := lostEnd t2 hl n2
    have hw := want_at_end h n2 hi [125]
    have e7 : deepS (-1) (wantS T [125] t2) = some (u2, t3) := e7
    unfold deepS at e7
    split at e7
    · injection e7 with e7
      injection e7 with _ e9
      rw [← e9] at n3
      exact hw n3
    · cases e7
  rcases hop u t e3 with hl | ⟨_, t', f3, ht, _⟩
  · exact absurd (mono_stms X.lost hm N _ t l t2 hl e5) notlost2
  · rcases sq_stms X hst hm N [] [] t t' ht rfl l t2 e5 with hl | ⟨l', t2', f5, ht2, hll⟩
    · exact absurd hl notlost2
    · have hll : l' = l := by rw [show l' = l.map (fun x => x) from hll, List.map_id']
      subst hll
      obtain ⟨a1, a2, a3, a4, ⟨b1, b2, b3⟩ | ⟨b1, _, _⟩⟩ := ht2
      · -- the closing sign
        have e7 : deepS (-1) (wantS T [125] t2) = some (u2, t3) := e7
        by_cases hb : isS T [[125]] t2 = true
        · have hw : wantS T [125] t2 = nextS T t2 := if_pos hb
          have hn : nextS T t2 = { t2 with i := t2.i + 1 } := if_pos (by omega)
          have hb' : isS T' [[125]] t2' = true := by rw [X.is_ _ _ _ ⟨a1, a2, a3, a4, .inl ⟨b1, b2, b3⟩⟩]; exact hb
          have hw' : wantS T' [125] t2' = nextS T' t2' := if_pos hb'
          have hn' : nextS T' t2' = { t2' with i := t2'.i + 1 } := if_pos (by omega)
          rw [hw, hn] at e7
          unfold deepS at e7
          split at e7
          · rename_i hd
            injection e7 with e7
            injection e7 with _ e9
            subst e9
            unfold nodeM at e8
            split at e8
            · rename_i hdn
              injection e8 with e8
              injection e8 with e10 e11
              subst e10; subst e11
              have hlen2 : t2'.nd.length = t2.nd.length := by have := congrArg List.length a4; rwa [List.length_map, List.length_map] at this
              refine ⟨{ t2' with i := t2'.i + 1, dp := t2'.dp + -1, nd := t2'.nd ++ [⟨18, lineS src' T' s', 0, [], l'⟩] }, ?_, ?_, a2, ?_, ?_, ?_, ?_⟩
              · show (openM T' [123] >>= fun _ => stmsR T' st' N [] >>= fun l => shutM T' [125] >>= fun _ => nodeM ⟨18, lineS src' T' s', 0, [], []⟩ l) s' = _
                refine (bind_in f3).trans ((bind_in f5).trans ?_)
                refine (bind_in (a := ()) (s1 := { t2' with i := t2'.i + 1, dp := t2'.dp + -1 }) ?_).trans ?_
                · show deepS (-1) (wantS T' [125] t2') = _
                  rw [hw', hn']
                  exact if_pos (by rw [show ({ t2' with i := t2'.i + 1 } : PS).dp = t2'.dp from rfl, a3]; exact hd)
                · show (if t2'.nd.length < 100000 then _ else _) = _
                  rw [if_pos (by rw [hlen2]; exact hdn), hlen2]
              · show t2'.i + 1 = t2.i + 1
                rw [b3]
              · show t2'.er = 0
                rw [a1]; exact b1
              · show t2'.dp + -1 = t2.dp + -1
                rw [a3]
              · show (t2'.nd ++ [_]).map un = (t2.nd ++ [_]).map un
                rw [List.map_append, List.map_append, a4]
                rfl
              · show t2.i + 1 ≤ E
                omega
            · cases e8
          · cases e7
        · exfalso
          have hw : wantS T [125] t2 = failS T 20 t2 := if_neg hb
          have hn : failS T 20 t2 = { t2 with pl := (tokA T t2).p, er := 20, i := T.length - 1 } := if_pos b1
          rw [hw, hn] at e7
          unfold deepS at e7
          split at e7
          · injection e7 with e7
            injection e7 with _ e9
            rw [← e9] at n3
            exact absurd n3 (by show ¬ (20 : Nat) = 0; decide)
          · cases e7
      · exact absurd n2 b1
end
end Go.Proofs.YtgelggdgbmldiaaGreatDoor

namespace Go.Proofs.YtgelggdgbmldiaaGreatDoor
set_option linter.unusedVariables false
set_option linter.unusedSimpArgs false

def preM (T : List Tok) (N : Nat) : PM (List UInt8 × List (List UInt8 × Int) × Int) := do
  mod (wantS T [102, 110])
  let x ← ask (nameX T)
  mod (nameS T)
  mod (wantS T [40])
  let ps ← paramsM T N
  mod (wantS T [41])
  let r ← retM T
  pure (x, ps, r)
theorem function_pre (src : List UInt8) (T : List Tok) (N : Nat) : functionM src T N = (ask (lineS src T) >>= fun ln => preM T N >>= fun q => blockM src T N (stM src T N N) >>= fun y => pure ⟨q.1, ln, q.2.1, q.2.2, y⟩) := by
  unfold functionM preM
  simp only [bind_assoc, pure_bind]

section
variable {src src' : List UInt8} {T T' : List Tok} {E A : Nat}
theorem sq_pre {Rel : PS → PS → Prop} {Lost : PS → Prop} {ph : Int → Int} {RL : Int → Int → Prop} (X : Prim src src' T T' Rel Lost ph RL) (N : Nat) {s s' : PS} (hs : Rel s s') : SqAt Rel Lost (fun a b => b = a) (preM T N) (preM T' N) s s' := by
  unfold preM
  refine SqAt.both (rel_want X hs _) (Mono.ask fun _ => Mono.name X.lost (Mono.want X.lost ((mono_paramsM X.lost N).bind fun _ => Mono.want X.lost ((mono_ret X.lost).bind fun _ => Mono.ret)))) ?_
  intro ht
  refine SqAt.asks ?_
  rw [rel_nameX X ht]
  refine SqAt.both (rel_name X ht) (Mono.want X.lost ((mono_paramsM X.lost N).bind fun _ => Mono.want X.lost ((mono_ret X.lost).bind fun _ => Mono.ret))) ?_
  intro hu
  refine SqAt.both (rel_want X hu _) ((mono_paramsM X.lost N).bind fun _ => Mono.want X.lost ((mono_ret X.lost).bind fun _ => Mono.ret)) ?_
  intro hv
  refine SqAt.bind (sq_paramsM X N hv) (fun _ => Mono.want X.lost ((mono_ret X.lost).bind fun _ => Mono.ret)) ?_
  intro ps ps' w w' hw hps
  refine SqAt.both (rel_want X hw _) ((mono_ret X.lost).bind fun _ => Mono.ret) ?_
  intro hz
  refine SqAt.bind (sq_ret X hz) (fun _ => Mono.ret) ?_
  intro r r' p p' hp hr
  exact SqAt.ret hp (by rw [show r' = r from hr, show ps' = ps from hps])
theorem function_both (h : Pre T T' E A) {N : Nat} {s s' t : PS} {f : Fnc} (hs : PreR E (T'.length - 1) s s') (e : functionM src T N s = some (f, t)) (h0 : t.er = 0) :
    ∃ f' t', functionM src' T' N s' = some (f', t') ∧ RF (fun x => x) (fun _ _ => True) f f' ∧ t'.i = t.i ∧ t'.pl = t.pl ∧ t'.er = 0 ∧ t'.dp = t.dp ∧ t'.nd.map un = t.nd.map un ∧ t.i ≤ E := by
  have X := pre_prim (src := src) (src' := src') h
  rw [function_pre] at e ⊢
  have e : (preM T N >>= fun q => blockM src T N (stM src T N N) >>= fun y => pure (⟨q.1, lineS src T s, q.2.1, q.2.2, y⟩ : Fnc)) s = some (f, t) := e
  obtain ⟨q, u, e1, e2⟩ := bind_out e
  obtain ⟨y, v, e3, e4⟩ := bind_out e2
  have e4 := pure_out e4
  injection e4 with e5 e6
  subst e6
  rcases sq_pre X N hs q u e1 with hl | ⟨q', u', f1, hu, hq⟩
  · exact absurd h0 (block_lost h (mono_st (er_lost T) N N) hl e3)
  · have hq : q' = q := hq
    subst hq
    obtain ⟨v', f2, f3, fp, f4, f5, f6, f7⟩ := block_both h (sq_st X N N) (mono_st X.lost N N) hu e3 h0
    refine ⟨⟨q'.1, lineS src' T' s', q'.2.1, q'.2.2, y⟩, v', ?_, ?_, f3, fp, f4, f5, f6, f7⟩
    · show (preM T' N >>= fun q => blockM src' T' N (stM src' T' N N) >>= fun y => pure (⟨q.1, lineS src' T' s', q.2.1, q.2.2, y⟩ : Fnc)) s' = _
      exact (bind_in f1).trans ((bind_in f2).trans rfl)
    · rw [e5]
      exact ⟨rfl, trivial, rfl, rfl, rfl⟩
theorem fns_both (h : Pre T T' E A) {N : Nat} : ∀ n (l l' : List Fnc) (s s' : PS) (F : List Fnc) (s1 : PS), PreR E (T'.length - 1) s s' → RFs (fun x => x) (fun _ _ => True) l l' → fnsR src T N n l s = some (F, s1) → s1.er = 0 → ∀ n' F' S', fnsR src' T' N n' l' s' = some (F', S') →
    ∃ n'' l'' t, fnsR src' T' N n'' l'' t = some (F', S') ∧ t.i = E ∧ t.er = 0 ∧ t.dp = s1.dp ∧ t.nd.map un = s1.nd.map un ∧ RFs (fun x => x) (fun _ _ => True) F l'' := by
  intro n
  induction n with
  | zero => intro l l' s s' F s1 _ _ e; cases e
  | succ n ih =>
    intro l l' s s' F s1 hs hl e h1 n' F' S' e'
    have X := pre_prim (src := src) (src' := src') h
    unfold fnsR at e
    have e : (if (decide (s.er = 0) && !(decide ((tokA T s).k = 0))) = true then (do let x ← functionM src T N; fnsR src T N n (l ++ [x])) else pure l : PM (List Fnc)) s = some (F, s1) := e
    have hs0 := hs
    obtain ⟨a1, a2, a3, a4, ⟨b1, b2, b3⟩ | ⟨b1, b2, b3⟩⟩ := hs
    · have hk : (tokA T s).k ≠ 0 := h.inner _ b2
      rw [decide_eq_true b1, decide_eq_false hk, if_pos (show (true && !false) = true from rfl)] at e
      obtain ⟨f, t, e1, e2⟩ := bind_out e
      have ht0 : t.er = 0 := by
        by_cases h3 : t.er = 0
        · exact h3
        · exact absurd h1 (mono_fns (er_lost T) N n _ t F s1 h3 e2)
      obtain ⟨f', t', f1, f2, f3, fp, f4, f5, f6, f7⟩ := function_both h (src' := src') hs0 e1 ht0
      cases n' with
      | zero => cases e'
      | succ n' =>
        unfold fnsR at e'
        have e' : (if (decide (s'.er = 0) && !(decide ((tokA T' s').k = 0))) = true then (do let x ← functionM src' T' N; fnsR src' T' N n' (l' ++ [x])) else pure l' : PM (List Fnc)) s' = some (F', S') := e'
        rw [a1, decide_eq_true b1, (pre_tok h hs0).1, decide_eq_false hk, if_pos (show (true && !false) = true from rfl)] at e'
        obtain ⟨g, v, e3, e4⟩ := bind_out e'
        rw [f1] at e3
        injection e3 with e3
        injection e3 with e5 e6
        subst e5; subst e6
        by_cases hi : t.i < E
        · -- goes on
          exact ih _ _ t t' F s1 ⟨by rw [f4]; exact ht0.symm, fp, f5, f6, .inl ⟨ht0, hi, f3⟩⟩ (hl.more f2) e2 h1 n' F' S' e4
        · have hi : t.i = E := by omega
          cases n with
          | zero => cases e2
          | succ n =>
            unfold fnsR at e2
            have e2 : (if (decide (t.er = 0) && !(decide ((tokA T t).k = 0))) = true then (do let x ← functionM src T N; fnsR src T N n (l ++ [f] ++ [x])) else pure (l ++ [f]) : PM (List Fnc)) t = some (F, s1) := e2
            rw [show (tokA T t).k = 0 by unfold tokA; rw [hi]; exact h.k0, decide_eq_true rfl, Bool.not_true, Bool.and_false, if_neg (by decide)] at e2
            have e2 := pure_out e2
            injection e2 with e7 e8
            subst e7; subst e8
            exact ⟨n', _, t', e4, by omega, f4, f5, f6, hl.more f2⟩
    · rw [decide_eq_false b1, Bool.false_and, if_neg (by decide)] at e
      have e := pure_out e
      injection e with e7 e8
      subst e8
      exact absurd h1 b1

/-- A node with its numbers moved, without its line. -/
def shN (D : Nat) (n : Nd) : Nd := { n with ln := 0, l := n.l.map (fun x => x + (D : Int)) }
/-- The second row of tokens, as it stands behind the first one's. -/
structure Aft (T T' : List Tok) (E : Nat) : Prop where
  len : T'.length = E + T.length
  ne : 0 < T.length
  same : ∀ j, j < T.length → (T'.getD (E + j) default).k = (T.getD j default).k ∧ (T'.getD (E + j) default).x = (T.getD j default).x
def AftR (T : List Tok) (E : Nat) (D0 : List Nd) (s s' : PS) : Prop := s.er = 0 ∧ s'.er = 0 ∧ s.i < T.length ∧ s'.i = E + s.i ∧ s'.dp = s.dp ∧ s'.nd.map un = D0 ++ s.nd.map (shN D0.length)
def AftL (D : Nat) (s : PS) : Prop := s.er ≠ 0 ∨ 100000 ≤ s.nd.length + D
theorem aft_lost (T : List Tok) (D : Nat) : LostP T (AftL D) := by
  refine ⟨?_, ?_, ?_, ?_⟩
  · intro s hs
    unfold nextS
    split
    · exact hs
    · exact hs
  · intro s e hs he
    unfold failS
    split
    · exact .inl (by show e ≠ 0; omega)
    · exact hs
  · intro s d hs; exact hs
  · intro s n hs
    rcases hs with h | h
    · exact .inl h
    · refine .inr ?_
      show 100000 ≤ (s.nd ++ [n]).length + D
      rw [List.length_append]
      omega
theorem aft_tok (h : Aft T T' E) {D0 : List Nd} {s s' : PS} (hs : AftR T E D0 s s') : (tokA T' s').k = (tokA T s).k ∧ (tokA T' s').x = (tokA T s).x := by
  obtain ⟨_, _, h1, h2, _, _⟩ := hs
  unfold tokA
  rw [h2]
  exact h.same _ h1
theorem aft_prim (h : Aft T T' E) (D0 : List Nd) : Prim src src' T T' (AftR T E D0) (AftL D0.length) (fun x => x + (D0.length : Int)) (fun _ _ => True) where
  lost := aft_lost T D0.length
  is_ := fun s s' ts hs => by
    obtain ⟨h1, h2⟩ := aft_tok h hs
    unfold isS
    rw [h1, h2]
  tok := fun s s' hs => aft_tok h hs
  calls := fun s s' hs => by
    left
    have ht := (aft_tok h hs).1
    obtain ⟨_, _, h1, h2, _, _⟩ := hs
    unfold callsS
    rw [ht, h2, show E + s.i + 1 = E + (s.i + 1) by omega]
    by_cases hi : s.i + 1 < T.length
    · obtain ⟨h3, h4⟩ := h.same _ hi
      rw [h3, h4]
    · have hl := h.len
      rw [List.getD, List.getD, List.getElem?_eq_none (by omega), List.getElem?_eq_none (by omega)]
  line := fun _ _ _ => trivial
  er := fun s s' hs => by rw [hs.1, hs.2.1]
  next := fun s s' hs => by
    have hl := h.len
    obtain ⟨h1, h2, h3, h4, h5, h6⟩ := hs
    by_cases hi : s.i < T.length - 1
    · have e1 : nextS T s = { s with i := s.i + 1 } := if_pos hi
      have e2 : nextS T' s' = { s' with i := s'.i + 1 } := if_pos (by omega)
      rw [e1, e2]
      exact .inr ⟨h1, h2, by show s.i + 1 < T.length; omega, by show s'.i + 1 = E + (s.i + 1); omega, h5, h6⟩
    · have e1 : nextS T s = s := if_neg hi
      have e2 : nextS T' s' = s' := if_neg (by omega)
      rw [e1, e2]
      exact .inr ⟨h1, h2, h3, h4, h5, h6⟩
  fail := fun s s' e hs he => by
    have e1 : failS T e s = { s with pl := (tokA T s).p, er := e, i := T.length - 1 } := if_pos hs.1
    rw [e1]
    exact .inl (.inl (by show e ≠ 0; omega))
  dp := fun s s' hs => by
    obtain ⟨h1, h2, h3, h4, h5, h6⟩ := hs
    exact ⟨h5, fun d => ⟨h1, h2, h3, h4, rfl, h6⟩⟩
  node := fun s s' k ln ln' n x l hs _ hb => by
    obtain ⟨h1, h2, h3, h4, h5, h6⟩ := hs
    have hlen : s'.nd.length = D0.length + s.nd.length := by
      have := congrArg List.length h6
      rwa [List.length_map, List.length_append, List.length_map] at this
    by_cases hb2 : s.nd.length + D0.length < 100000
    · refine .inr ⟨by omega, by rw [hlen]; omega, h1, h2, h3, h4, h5, ?_⟩
      show (s'.nd ++ [_]).map un = D0 ++ (s.nd ++ [_]).map _
      rw [List.map_append, List.map_append, h6, List.append_assoc]
      rfl
    · left
      refine .inr ?_
      show 100000 ≤ (s.nd ++ [_]).length + D0.length
      rw [List.length_append]
      omega
theorem fns_aft (h : Aft T T' E) (D0 : List Nd) {N : Nat} : ∀ n (l l' : List Fnc) (s s' : PS) (F : List Fnc) (s1 : PS), AftR T E D0 s s' → fnsR src T N n l s = some (F, s1) → ¬ AftL D0.length s1 → ∀ n' F' S', fnsR src' T' N n' l' s' = some (F', S') →
    ∃ m m', F = l ++ m ∧ F' = l' ++ m' ∧ RFs (fun x => x + (D0.length : Int)) (fun _ _ => True) m m' ∧ AftR T E D0 s1 S' := by
  intro n
  induction n with
  | zero => intro l l' s s' F s1 _ e; cases e
  | succ n ih =>
    intro l l' s s' F s1 hs e hn n' F' S' e'
    have X := aft_prim (src := src) (src' := src') h D0
    cases n' with
    | zero => cases e'
    | succ n' =>
      unfold fnsR at e e'
      have e : (if (decide (s.er = 0) && !(decide ((tokA T s).k = 0))) = true then (do let x ← functionM src T N; fnsR src T N n (l ++ [x])) else pure l : PM (List Fnc)) s = some (F, s1) := e
      have e' : (if (decide (s'.er = 0) && !(decide ((tokA T' s').k = 0))) = true then (do let x ← functionM src' T' N; fnsR src' T' N n' (l' ++ [x])) else pure l' : PM (List Fnc)) s' = some (F', S') := e'
      rw [hs.2.1, (aft_tok h hs).1] at e'
      rw [hs.1] at e
      by_cases hk : (decide ((0 : Nat) = 0) && !(decide ((tokA T s).k = 0))) = true
      · rw [if_pos hk] at e e'
        obtain ⟨f, t, e1, e2⟩ := bind_out e
        obtain ⟨g, v, e3, e4⟩ := bind_out e'
        rcases sq_function X N hs f t e1 with hl | ⟨f', t', f1, ht, hf⟩
        · exact absurd (mono_fns X.lost N n _ t F s1 hl e2) hn
        · rw [f1] at e3
          injection e3 with e3
          injection e3 with e5 e6
          subst e5; subst e6
          obtain ⟨m, m', h1, h2, h3, h4⟩ := ih _ _ t t' F s1 ht e2 hn n' F' S' e4
          exact ⟨f :: m, f' :: m', by rw [h1, List.append_assoc]; rfl, by rw [h2, List.append_assoc]; rfl, ⟨hf, h3⟩, h4⟩
      · rw [if_neg hk] at e e'
        have e := pure_out e
        have e' := pure_out e'
        injection e with e7 e8
        injection e' with e9 e10
        subst e7; subst e8; subst e9; subst e10
        exact ⟨[], [], by rw [List.append_nil], by rw [List.append_nil], trivial, hs⟩
end

theorem aft_of (a b : List UInt8) (hn : (lexL a 0).2 = none) (hb : (lexL b 0).2 = none) : (lexL (a ++ 10 :: b) 0).2 = none ∧ ∃ E, (lexL a 0).1.length = E + 1 ∧ Aft (lexL b 0).1 (lexL (a ++ 10 :: b) 0).1 E := by
  obtain ⟨init, h1, h2⟩ := lexL_both b a 0 hn
  have hs := lexL_shift (0 + a.length + 1) b 0
  rw [Nat.zero_add] at hs
  rw [hs] at h2
  refine ⟨by rw [h2, hb]; rfl, init.length, by rw [h1]; simp, by rw [h2]; simp, List.length_pos_iff.mpr (lexL_ne b 0 hb), fun j hj => ?_⟩
  rw [h2]
  have e1 : (init ++ (lexL b 0).1.map (Tok.up (0 + a.length + 1))).getD (init.length + j) default = Tok.up (0 + a.length + 1) (lexL b 0).1[j] := by
    rw [List.getD, List.getElem?_append_right (by omega), show init.length + j - init.length = j by omega, List.getElem?_map, List.getElem?_eq_getElem hj]
    rfl
  have e2 : (lexL b 0).1.getD j default = (lexL b 0).1[j] := by rw [List.getD, List.getElem?_eq_getElem hj]; rfl
  show ((init ++ (lexL b 0).1.map (Tok.up (0 + a.length + 1))).getD (init.length + j) default).k = _ ∧ ((init ++ (lexL b 0).1.map (Tok.up (0 + a.length + 1))).getD (init.length + j) default).x = _
  rw [e1, e2]
  exact ⟨rfl, rfl⟩

theorem RFs.len {ph : Int → Int} {RL : Int → Int → Prop} : ∀ {l l' : List Fnc}, RFs ph RL l l' → l'.length = l.length
  | [], [], _ => rfl
  | _ :: l, _ :: l', h => by rw [List.length_cons, List.length_cons, RFs.len h.2]
  | [], _ :: _, h => h.elim
  | _ :: _, [], h => h.elim
theorem RFs.any {ph : Int → Int} {RL : Int → Int → Prop} : ∀ {l l' : List Fnc}, RFs ph RL l l' → l'.any (fun f => decide (3 < f.ps.length)) = l.any (fun f => decide (3 < f.ps.length))
  | [], [], _ => rfl
  | _ :: l, _ :: l', h => by rw [List.any_cons, List.any_cons, RFs.any h.2, h.1.2.2.1]
  | [], _ :: _, h => h.elim
  | _ :: _, [], h => h.elim
/-- What a tree is told for. -/
theorem tree_out {N : Nat} {a : List UInt8} {nd : List Nd} {fs : List Fnc} (hN : 6100 ≤ N) (h : allP N a = some (.inr (nd, fs))) : a.length ≤ 600 ∧ (lexL a 0).2 = none ∧ ∃ s1, fnsR a (lexL a 0).1 N N [] ⟨0, 0, 0, [], 0⟩ = some (fs, s1) ∧ s1.er = 0 ∧ s1.nd = nd ∧ s1.dp = 0 ∧ nd.length ≤ 300 ∧ fs.length ≤ 6 ∧ fs.any (fun f => decide (3 < f.ps.length)) = false := by
  unfold allP at h
  split at h
  · cases h
  rename_i hb
  cases hn : (lexL a 0).2 with
  | some pe => rw [hn] at h; cases h
  | none =>
    rw [hn] at h
    refine ⟨by omega, rfl, ?_⟩
    cases hm : fnsR a (lexL a 0).1 N N [] ⟨0, 0, 0, [], 0⟩ with
    | none => rw [hm] at h; cases h
    | some r =>
      rw [hm] at h
      obtain ⟨l, s1⟩ := r
      have h1 : treeP l s1 = .inr (nd, fs) := Option.some.inj h
      have hT := lexL_endT a (by omega) hn
      have hle : (lexL a 0).1.length ≤ 601 := by have := lexL_len a 0; omega
      have hmu : mu (lexL a 0).1 ⟨0, 0, 0, [], 0⟩ = (lexL a 0).1.length := rfl
      obtain ⟨fs2, s2, h3, h4⟩ := fns_runs (src := a) hT (N := N) N [] ⟨0, 0, 0, [], 0⟩ ⟨⟨hT.1, fun h => absurd rfl h⟩, by decide, by rw [hmu]; show (0 : Int) + _ ≤ _; omega, by rw [hmu]; show 0 + _ ≤ _; omega⟩ (by rw [hmu]; omega) (by rw [hmu]; omega)
      rw [hm] at h3
      injection h3 with h3
      injection h3 with h5 h6
      subst h6
      have hdp : s1.dp = 0 := h4.2.2.2
      unfold treeP at h1
      split at h1
      · rename_i h0
        split at h1
        · cases h1
        · rename_i hc
          injection h1 with h1
          injection h1 with h7 h8
          subst h7; subst h8
          simp only [Bool.or_eq_true, decide_eq_true_eq, not_or] at hc
          exact ⟨s1, rfl, h0, rfl, hdp, by omega, by omega, by simpa using hc.2⟩
      · cases h1

/-- What is told of two sources, one behind the other. -/
theorem both_data (a b : List UInt8) (nda ndb : List Nd) (fa fb : List Fnc) (ha : allP 6100 a = some (.inr (nda, fa))) (hb : allP 6100 b = some (.inr (ndb, fb))) (hl : (a ++ 10 :: b).length ≤ 600) :
    (300 < nda.length + ndb.length ∨ 6 < fa.length + fb.length → allP 6100 (a ++ 10 :: b) = some (.inl (0, 4))) ∧
    (¬ (300 < nda.length + ndb.length ∨ 6 < fa.length + fb.length) → ∃ ndx fx fx', allP 6100 (a ++ 10 :: b) = some (.inr (ndx, fx ++ fx')) ∧ ndx.map un = nda.map un ++ ndb.map (shN nda.length) ∧ RFs (fun x => x) (fun _ _ => True) fa fx ∧ RFs (fun x => x + (nda.length : Int)) (fun _ _ => True) fb fx') := by
  obtain ⟨la, na, sa, ea, ea0, end_a, eadp, a300, a6, aany⟩ := tree_out (Nat.le_refl _) ha
  obtain ⟨lb, nb, sb, eb, eb0, end_b, ebdp, b300, b6, bany⟩ := tree_out (Nat.le_refl _) hb
  obtain ⟨hlex, E, hE, hA⟩ := aft_of a b na nb
  obtain ⟨E2, hpre⟩ := pre_of a b (by omega) na hlex (by omega)
  have hEE : E2 = E := by have := hpre.len; omega
  subst hEE
  obtain ⟨res, hres⟩ := allP_some (a ++ 10 :: b) 6100 (Nat.le_refl _)
  -- the run of both
  have hrun : ∃ F S, fnsR (a ++ 10 :: b) (lexL (a ++ 10 :: b) 0).1 6100 6100 [] ⟨0, 0, 0, [], 0⟩ = some (F, S) ∧ treeP F S = res := by
    unfold allP at hres
    rw [if_neg (by omega), hlex] at hres
    cases hm : fnsR (a ++ 10 :: b) (lexL (a ++ 10 :: b) 0).1 6100 6100 [] ⟨0, 0, 0, [], 0⟩ with
    | none => rw [hm] at hres; cases hres
    | some r =>
      rw [hm] at hres
      exact ⟨r.1, r.2, rfl, Option.some.inj hres⟩
  obtain ⟨F, S, hF, hFS⟩ := hrun
  have hmid : ∃ n'' l'' t, fnsR (a ++ 10 :: b) (lexL (a ++ 10 :: b) 0).1 6100 n'' l'' t = some (F, S) ∧ t.i = E2 ∧ t.er = 0 ∧ t.dp = 0 ∧ t.nd.map un = nda.map un ∧ RFs (fun x => x) (fun _ _ => True) fa l'' := by
    by_cases h0 : 0 < E2
    · obtain ⟨n'', l'', t, h1, h2, h3, h4, h5, h6⟩ := fns_both hpre (src' := a ++ 10 :: b) 6100 [] [] ⟨0, 0, 0, [], 0⟩ ⟨0, 0, 0, [], 0⟩ fa sa ⟨rfl, rfl, rfl, rfl, .inl ⟨rfl, h0, rfl⟩⟩ trivial ea ea0 6100 F S hF
      exact ⟨n'', l'', t, h1, h2, h3, by rw [h4, eadp], by rw [h5, end_a], h6⟩
    · have hz : E2 = 0 := by omega
      unfold fnsR at ea
      have ea : (if (decide ((0 : Nat) = 0) && !(decide ((tokA (lexL a 0).1 ⟨0, 0, 0, [], 0⟩).k = 0))) = true then _ else _ : PM (List Fnc)) ⟨0, 0, 0, [], 0⟩ = some (fa, sa) := ea
      rw [show (tokA (lexL a 0).1 ⟨0, 0, 0, [], 0⟩).k = 0 by have := hpre.k0; rw [hz] at this; exact this, if_neg (by decide)] at ea
      have ea := pure_out ea
      injection ea with e7 e8
      subst e7
      rw [e8] at end_a
      exact ⟨6100, [], ⟨0, 0, 0, [], 0⟩, hF, by rw [hz], rfl, rfl, by rw [← end_a], trivial⟩
  obtain ⟨n'', l'', t, h1, h2, h3, h4, h5, h6⟩ := hmid
  have hD : (nda.map un).length = nda.length := List.length_map ..
  obtain ⟨m, m', h7, h8, h9, h10⟩ := fns_aft hA (nda.map un) (src := b) (src' := a ++ 10 :: b) 6100 [] l'' ⟨0, 0, 0, [], 0⟩ t fb sb ⟨rfl, h3, hA.ne, by rw [h2]; rfl, h4, by rw [h5]; exact (List.append_nil _).symm⟩ eb (by
    rintro (h | h)
    · exact h eb0
    · rw [end_b, hD] at h; omega) n'' F S h1
  have h7 : fb = m := h7
  subst h7
  rw [hD] at h9
  obtain ⟨_, hS0, _, _, _, hSn⟩ := h10
  rw [hD, end_b] at hSn
  have hSl : S.nd.length = nda.length + ndb.length := by
    have := congrArg List.length hSn
    rwa [List.length_map, List.length_append, List.length_map, List.length_map] at this
  have hFl : F.length = fa.length + fb.length := by rw [h8, List.length_append, h6.len, h9.len]
  have hFa : F.any (fun f => decide (3 < f.ps.length)) = false := by rw [h8, List.any_append, h6.any, h9.any, aany, bany]; rfl
  unfold treeP at hFS
  rw [if_pos hS0, hSl, hFl, hFa, Bool.or_false] at hFS
  constructor
  · intro hbig
    rw [if_pos (by rcases hbig with h | h <;> simp [h])] at hFS
    rw [hres, ← hFS]
  · intro hfit
    rw [if_neg (by rw [Bool.or_eq_true, decide_eq_true_eq, decide_eq_true_eq]; exact hfit)] at hFS
    exact ⟨S.nd, l'', m', by rw [hres, ← hFS, h8], hSn, h6, h9⟩
end Go.Proofs.YtgelggdgbmldiaaGreatDoor

namespace Go.Proofs.YtgelggdgbmldiaaGreatDoor
set_option linter.unusedVariables false
set_option linter.unusedSimpArgs false

/-- Tokens, each in a line of its own. -/
def joinN : List Tok → List UInt8
  | [] => []
  | t :: ts => tokB t ++ 10 :: joinN ts
theorem joinN_append (a b : List Tok) : joinN (a ++ b) = joinN a ++ joinN b := by
  induction a with
  | nil => rfl
  | cons t a ih => simp [joinN, ih]
theorem joinN_next {ts : List Tok} {i : Nat} (h : i < ts.length) : joinN (ts.take (i + 1)) = (joinN (ts.take i) ++ tokB (ts.getD i default)) ++ [10] := by
  rw [List.take_succ_eq_append_getElem h, joinN_append, List.append_assoc]
  have : ts.getD i default = ts[i] := by simp [List.getD, h]
  rw [this]
  rfl
theorem lex_one (t : Tok) (hg : GoodTok t) (p : Nat) : (lexL (tokB t) p).2 = none ∧ (lexL (tokB t) p).1.map (fun t => (t.k, t.x)) = [(t.k, t.x), (0, [])] := by
  obtain ⟨c, r, e⟩ := List.exists_cons_of_ne_nil hg.ne
  have h1 := hg.first [] (.inl rfl)
  have h2 := hg.nrem [] (.inl rfl)
  have h3 := hg.nblk c r e
  rw [List.append_nil] at h1 h2
  have hs := hg.said
  have hd : (tokB t).drop (tokB t).length = [] := List.drop_length
  have htk : (tokB t).take (tokB t).length = tokB t := List.take_length
  obtain ⟨l, hl⟩ : ∃ l, l = tokB t := ⟨_, rfl⟩
  obtain ⟨n, hn⟩ : ∃ n, n = (tokB t).length := ⟨_, rfl⟩
  rw [← hn] at h1 hd htk
  rw [← hl] at h1 h2 hd htk hs e ⊢
  have he : (firstL l).2.2 = 0 := by rw [h1]
  rw [e] at he h2
  have h5 := lexL_tok (p := p) h3 h2 he
  rw [← e, h1] at h5
  rw [h5]
  simp only [hd, htk, hs]
  exact ⟨rfl, rfl⟩
theorem lexL_joinN (ts : List Tok) (h : ∀ t ∈ ts, GoodTok t) (p : Nat) : (lexL (joinN ts) p).2 = none ∧ (lexL (joinN ts) p).1.map (fun t => (t.k, t.x)) = ts.map (fun t => (t.k, t.x)) ++ [(0, [])] := by
  induction ts generalizing p with
  | nil => exact ⟨rfl, rfl⟩
  | cons t ts ih =>
    obtain ⟨h1, h2⟩ := lex_one t (h t (by simp)) p
    obtain ⟨init, h3, h4⟩ := lexL_both (joinN ts) (tokB t) p h1
    obtain ⟨h5, h6⟩ := ih (fun t ht => h t (by simp [ht])) (p + (tokB t).length + 1)
    show (lexL (tokB t ++ 10 :: joinN ts) p).2 = none ∧ (lexL (tokB t ++ 10 :: joinN ts) p).1.map _ = _
    rw [h4]
    refine ⟨h5, ?_⟩
    rw [h3, List.map_append] at h2
    have h7 : init.map (fun t : Tok => (t.k, t.x)) = [(t.k, t.x)] := (List.append_inj' (t₁ := [(0, ([] : List UInt8))]) (show _ ++ [(0, ([] : List UInt8))] = [(t.k, t.x)] ++ [(0, [])] from h2) rfl).1
    rw [List.map_append, h7, h6]
    rfl
theorem joinN_le (l : List UInt8) (p : Nat) : (lexL l p).2 = none → (joinN (lexL l p).1.dropLast).length ≤ 2 * l.length := by
  refine lexL_ind (P := fun l p => (lexL l p).2 = none → (joinN (lexL l p).1.dropLast).length ≤ 2 * l.length) ?_ ?_ ?_ ?_ ?_ ?_ l p
  · intro p _; exact Nat.zero_le _
  · intro c r p h ih hn
    rw [lexL_blank h] at hn ⊢
    have := ih hn
    rw [List.length_cons]
    omega
  · intro c r p h h1 h2 hn
    rw [lexL_rem_end h h1 h2]
    exact Nat.zero_le _
  · intro c r p h h1 h2 ih hn
    rw [lexL_rem h h1 h2] at hn ⊢
    have := ih hn
    rw [List.length_drop] at this
    omega
  · intro c r p h h1 h2 hn
    rw [lexL_bad h h1 h2] at hn
    cases hn
  · intro c r p h h1 h2 ih hn
    rw [lexL_tok h h1 h2] at hn ⊢
    have i1 := ih hn
    have hne := lexL_ne _ _ hn
    have hz := first_size (c :: r) (by simp) h2
    have hg := (first_good p h h1 h2).2
    rw [List.dropLast_cons_of_ne_nil hne]
    show (tokB _ ++ 10 :: joinN _).length ≤ _
    rw [hg, List.length_append, List.length_take]
    show min _ _ + (_ + 1) ≤ _
    rw [List.length_drop] at i1
    omega

/-- Rows of the same tokens at other places. -/
structure Plc (T T' : List Tok) : Prop where
  len : T'.length = T.length
  same : ∀ i, (T'.getD i default).k = (T.getD i default).k ∧ (T'.getD i default).x = (T.getD i default).x
theorem plc_of {T T' : List Tok} (h : T'.map (fun t => (t.k, t.x)) = T.map (fun t => (t.k, t.x))) : Plc T T' := by
  refine ⟨by have := congrArg List.length h; rwa [List.length_map, List.length_map] at this, fun i => ?_⟩
  have h1 := congrArg (fun l => l[i]?) h
  simp only [List.getElem?_map] at h1
  rw [List.getD, List.getD]
  cases e1 : T'[i]? with
  | none =>
    cases e2 : T[i]? with
    | none => exact ⟨rfl, rfl⟩
    | some b => rw [e1, e2] at h1; cases h1
  | some a =>
    cases e2 : T[i]? with
    | none => rw [e1, e2] at h1; cases h1
    | some b =>
      rw [e1, e2] at h1
      have h2 : (a.k, a.x) = (b.k, b.x) := Option.some.inj h1
      exact ⟨congrArg Prod.fst h2, congrArg Prod.snd h2⟩
def PlcR (s s' : PS) : Prop := s.er = 0 ∧ s'.er = 0 ∧ s'.i = s.i ∧ s'.dp = s.dp ∧ s'.nd.map un = s.nd.map un

section
variable {src src' : List UInt8} {T T' : List Tok}
theorem plc_tok (h : Plc T T') {s s' : PS} (hs : PlcR s s') : (tokA T' s').k = (tokA T s).k ∧ (tokA T' s').x = (tokA T s).x := by
  unfold tokA
  rw [hs.2.2.1]
  exact h.same _
theorem plc_prim (h : Plc T T') : Prim src src' T T' PlcR (fun s => s.er ≠ 0) (fun x => x) (fun _ _ => True) where
  lost := er_lost T
  is_ := fun s s' ts hs => by
    obtain ⟨h1, h2⟩ := plc_tok h hs
    unfold isS
    rw [h1, h2]
  tok := fun s s' hs => plc_tok h hs
  calls := fun s s' hs => by
    left
    unfold callsS
    rw [(plc_tok h hs).1, hs.2.2.1, (h.same (s.i + 1)).1, (h.same (s.i + 1)).2]
  line := fun _ _ _ => trivial
  er := fun s s' hs => by rw [hs.1, hs.2.1]
  next := fun s s' hs => by
    obtain ⟨a1, a2, a3, a4, a5⟩ := hs
    unfold nextS
    rw [h.len, a3]
    split
    · exact .inr ⟨a1, a2, rfl, a4, a5⟩
    · exact .inr ⟨a1, a2, a3, a4, a5⟩
  fail := fun s s' e hs he => by
    left
    have e1 : failS T e s = { s with pl := (tokA T s).p, er := e, i := T.length - 1 } := if_pos hs.1
    rw [e1]
    show e ≠ 0
    omega
  dp := fun s s' hs => by
    obtain ⟨a1, a2, a3, a4, a5⟩ := hs
    exact ⟨a4, fun d => ⟨a1, a2, a3, rfl, a5⟩⟩
  node := fun s s' k ln ln' n x l hs _ hb => by
    obtain ⟨a1, a2, a3, a4, a5⟩ := hs
    have hlen : s'.nd.length = s.nd.length := by have := congrArg List.length a5; rwa [List.length_map, List.length_map] at this
    refine .inr ⟨by omega, by rw [hlen], a1, a2, a3, a4, ?_⟩
    show (s'.nd ++ [_]).map un = (s.nd ++ [_]).map un
    rw [List.map_append, List.map_append, a5, List.map_id']
    rfl
end

/-- A function without its line. -/
def unF (f : Fnc) : Fnc := { f with ln := 0 }
theorem RFs.unF : ∀ {l l' : List Fnc}, RFs (fun x => x) (fun _ _ => True) l l' → l'.map unF = l.map unF
  | [], [], _ => rfl
  | f :: l, f' :: l', h => by
    obtain ⟨⟨h1, _, h2, h3, h4⟩, h5⟩ := h
    rw [List.map_cons, List.map_cons, RFs.unF h5]
    congr 1
    show ({ f' with ln := 0 } : Fnc) = { f with ln := 0 }
    rw [h1, h2, h3, show f'.body = f.body from h4]
  | [], _ :: _, h => h.elim
  | _ :: _, [], h => h.elim

/-- What is told of a source whose tokens stand apart. -/
theorem blanks_data (a : List UInt8) (nd : List Nd) (fs : List Fnc) (ha : allP 6100 a = some (.inr (nd, fs))) (hl : a.length ≤ 300) :
    (joinN (lexL a 0).1.dropLast).length ≤ 600 ∧ (lexL a 0).2 = none ∧ nd.length ≤ 300 ∧ fs.length ≤ 6 ∧ fs.any (fun f => decide (3 < f.ps.length)) = false ∧ ∃ nd' fs', allP 6100 (joinN (lexL a 0).1.dropLast) = some (.inr (nd', fs')) ∧ nd'.map un = nd.map un ∧ fs'.map unF = fs.map unF := by
  obtain ⟨la, na, sa, ea, ea0, end_a, eadp, a300, a6, aany⟩ := tree_out (Nat.le_refl _) ha
  have hle := joinN_le a 0 na
  obtain ⟨init, h1, h2⟩ := lexL_good a 0 na
  have hts : (lexL a 0).1.dropLast = init := by rw [h1]; simp
  rw [hts] at hle ⊢
  obtain ⟨hlex, hkx⟩ := lexL_joinN init h2 0
  have hp : Plc (lexL a 0).1 (lexL (joinN init) 0).1 := plc_of (by rw [hkx, h1, List.map_append]; rfl)
  refine ⟨by omega, na, a300, a6, aany, ?_⟩
  have X := plc_prim (src := a) (src' := joinN init) hp
  rcases sq_fns X (fun s s' hs => by rw [(plc_tok hp hs).1]) 6100 6100 [] [] ⟨0, 0, 0, [], 0⟩ ⟨0, 0, 0, [], 0⟩ ⟨rfl, rfl, rfl, rfl, rfl⟩ trivial fs sa ea with h | ⟨fs', s1', h3, ⟨h4, h5, h6, h7, h8⟩, h9⟩
  · exact absurd ea0 h
  · have hnl : s1'.nd.length = nd.length := by rw [← end_a]; have := congrArg List.length h8; rwa [List.length_map, List.length_map] at this
    refine ⟨s1'.nd, fs', ?_, by rw [h8, end_a], h9.unF⟩
    unfold allP
    rw [if_neg (by omega), hlex]
    show (fnsR (joinN init) (lexL (joinN init) 0).1 6100 6100 [] ⟨0, 0, 0, [], 0⟩).map (fun p => treeP p.1 p.2) = _
    rw [h3]
    show some (treeP fs' s1') = _
    unfold treeP
    rw [if_pos h5, hnl, h9.len, h9.any, aany, if_neg (by simp; omega)]
end Go.Proofs.YtgelggdgbmldiaaGreatDoor
