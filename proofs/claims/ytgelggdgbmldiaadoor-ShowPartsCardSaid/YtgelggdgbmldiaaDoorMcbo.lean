/-
  Layer 2: a source, and more behind it: the same error at the same token. Written by an AI agent.
  Layer 2: two sources, one behind the other (data, the whole). Written by an AI agent.
  Layer 2: two sources, one behind the other: what a walk asks for. Written by an AI agent.
  Layer 3: the document's example. Written by an AI agent.
  Layer 2: the start of a row. Written by an AI agent.
  Layer 3: the start of a row. Written by an AI agent.
-/
import Derived.Lib.Bytealg
import Derived.Test.YtgelggdgbmldiaaDoorChecked
import Derived.Laws.OwnMore
import Derived.Laws.AppendOwnNone
import Derived.OwnWalk
import Derived.Lib.AppendZerosOnto
import Derived.Below
import Derived.Stop.Walk2
import Derived.WalkKit
import Derived.WalkLawsBesides
import Derived.WalkSpells
import Derived.Outline
import Derived.BigQuiet
import Derived.Deep.CutBlock
import Derived.Deep.CutRange
import Derived.Deep.DeepCutAuto
import Derived.Deep.RegionHeld3
import Derived.Deep.RegionLaw
import Derived.Deep.RegionWith
import Derived.StillTailTactics
import Derived.RegionTactic
import Derived.Laws.StructEq
import Derived.Lib.Hide
import Derived.Shelf.Abstract
import Derived.Shelf.Lay
import Derived.Ground.NamesProg
import Derived.Shelf.Strings.Prefix
import Derived.Shelf.Small.Strs
import Derived.Shelf.Strings.Count
import Derived.Shelf.Strconv.ErrVarParseInt
import Derived.WalkMore
import Derived.Scope
import Derived.Test.YtgelggdgbmldiaaDoorMcaa
import Derived.Test.YtgelggdgbmldiaaDoorMcac
import Derived.Test.YtgelggdgbmldiaaDoorMcad
import Derived.Test.YtgelggdgbmldiaaDoorMcae
import Derived.Test.YtgelggdgbmldiaaDoorMcag
import Derived.Test.YtgelggdgbmldiaaDoorMcah
import Derived.Test.YtgelggdgbmldiaaDoorMcbl
import Derived.Test.YtgelggdgbmldiaaDoorMcbm
import Derived.Test.YtgelggdgbmldiaaDoorMcbn
import Derived.Shelf.Slices.Turned
import Derived.Lib.SlicesS
import Derived.Deep.RegionHeld
import Derived.Deep.LoopGhost
import Derived.Deep.Light
import Derived.Deep.OwnRows
import Derived.Test.YtgelggdgbmldiaaDoorMcab
import Derived.Test.YtgelggdgbmldiaaDoorMcai
import Derived.Shelf.Strconv.Itoa3
import Derived.Lib.LaidTab
import Derived.Lib.ItoaLen
import Derived.Maps.Own
import Derived.Maps.OwnOps
import Derived.StringKeys
import Derived.Shelf.Strings.OnBuilder
import Derived.Shelf.Strings.BuilderCap
import Derived.Shelf.Strings.BuilderK
import Derived.Shelf.Strconv.AtoiAll
import Derived.Test.YtgelggdgbmldiaaDoorMcaf
import Derived.Test.YtgelggdgbmldiaaDoorMcaj
import Derived.Test.YtgelggdgbmldiaaDoorMcak
import Derived.Test.YtgelggdgbmldiaaDoorMcal
import Derived.Test.YtgelggdgbmldiaaDoorMcam
import Derived.Test.YtgelggdgbmldiaaDoorMcan
import Derived.Test.YtgelggdgbmldiaaDoorMcao
import Derived.Test.YtgelggdgbmldiaaDoorMcap
import Derived.Test.YtgelggdgbmldiaaDoorMcaq
import Derived.Test.YtgelggdgbmldiaaDoorMcar
import Derived.Test.YtgelggdgbmldiaaDoorMcas
import Derived.Test.YtgelggdgbmldiaaDoorMcat
import Derived.Test.YtgelggdgbmldiaaDoorMcau
import Derived.Test.YtgelggdgbmldiaaDoorMcav
import Derived.Test.YtgelggdgbmldiaaDoorMcaw
import Derived.Test.YtgelggdgbmldiaaDoorMcax
import Derived.Test.YtgelggdgbmldiaaDoorMcay
import Derived.Test.YtgelggdgbmldiaaDoorMcaz
import Derived.Test.YtgelggdgbmldiaaDoorMcba
import Derived.Test.YtgelggdgbmldiaaDoorMcbb
import Derived.Test.YtgelggdgbmldiaaDoorMcbc
import Derived.Test.YtgelggdgbmldiaaDoorMcbd
import Derived.Test.YtgelggdgbmldiaaDoorMcbe
import Derived.Test.YtgelggdgbmldiaaDoorMcbf
import Derived.Test.YtgelggdgbmldiaaDoorMcbg
import Derived.Test.YtgelggdgbmldiaaDoorMcbh
import Derived.Test.YtgelggdgbmldiaaDoorMcbi
import Derived.Test.YtgelggdgbmldiaaDoorMcbj
import Derived.Test.YtgelggdgbmldiaaDoorMcbk
import Derived.Test.YtgelggdgbmldiaaDoorRows
import Derived.Stop.LaidErr
import Derived.LaidMore
import Derived.Stop.Joined
import Derived.ProofKit
import Derived.ChangeOld
namespace Go.Proofs.YtgelggdgbmldiaaDoor
set_option linter.unusedVariables false
set_option linter.unusedSimpArgs false
/-- A node without its line. -/
def un (n : Nd) : Nd := { n with ln := 0 }
/-- Two rows of tokens that are the same ahead of the first one's end. -/
structure Pre (T T' : List Tok) (E A : Nat) : Prop where
  len : T.length = E + 1
  len' : E < T'.length
  big : T'.length ≤ 1000
  same : ∀ i, i < E → T'.getD i default = T.getD i default
  inner : ∀ i, i < E → (T.getD i default).k ≠ 0
  k0 : (T.getD E default).k = 0
  x0 : (T.getD E default).x = []
  p0 : (T.getD E default).p = A
  k0' : (T'.getD (T'.length - 1) default).k = 0
  x0' : (T'.getD (T'.length - 1) default).x = []
def PreR (E E' : Nat) (s s' : PS) : Prop := s'.er = s.er ∧ s'.pl = s.pl ∧ s'.dp = s.dp ∧ s'.nd.map un = s.nd.map un ∧ ((s.er = 0 ∧ s.i < E ∧ s'.i = s.i) ∨ (s.er ≠ 0 ∧ s.i = E ∧ s'.i = E'))
def PreL (E A : Nat) (s : PS) : Prop := (s.er = 0 ∧ s.i = E) ∨ (s.er ≠ 0 ∧ s.pl = A)
section
variable {src src' : List UInt8} {T T' : List Tok} {E A : Nat}
theorem pre_lost (h : Pre T T' E A) : LostP T (PreL E A) := by
  have hl := h.len
  refine ⟨?_, ?_, ?_, ?_⟩
  · intro s hs
    rcases hs with ⟨h1, h2⟩ | ⟨h1, h2⟩
    · have : nextS T s = s := if_neg (by omega)
      rw [this]
      exact .inl ⟨h1, h2⟩
    · unfold nextS
      split
      · exact .inr ⟨h1, h2⟩
      · exact .inr ⟨h1, h2⟩
  · intro s e hs he
    rcases hs with ⟨h1, h2⟩ | ⟨h1, h2⟩
    · have : failS T e s = { s with pl := (tokA T s).p, er := e, i := T.length - 1 } := if_pos h1
      rw [this]
      refine .inr ⟨by show e ≠ 0; omega, ?_⟩
      show (tokA T s).p = A
      unfold tokA
      rw [h2]
      exact h.p0
    · have : failS T e s = s := if_neg h1
      rw [this]
      exact .inr ⟨h1, h2⟩
  · intro s d hs
    exact hs
  · intro s n hs
    exact hs
theorem pre_tok (h : Pre T T' E A) {s s' : PS} (hs : PreR E (T'.length - 1) s s') : (tokA T' s').k = (tokA T s).k ∧ (tokA T' s').x = (tokA T s).x := by
  obtain ⟨_, _, _, _, ⟨h1, h2, h3⟩ | ⟨h1, h2, h3⟩⟩ := hs
  · unfold tokA
    rw [h3, h.same _ h2]
    exact ⟨rfl, rfl⟩
  · unfold tokA
    rw [h3, h2, h.k0, h.x0, h.k0', h.x0']
    exact ⟨rfl, rfl⟩
theorem pre_prim (h : Pre T T' E A) : Prim src src' T T' (PreR E (T'.length - 1)) (PreL E A) (fun x => x) (fun _ _ => True) where
  lost := pre_lost h
  is_ := fun s s' ts hs => by
    obtain ⟨h1, h2⟩ := pre_tok h hs
    unfold isS
    rw [h1, h2]
  tok := fun s s' hs => pre_tok h hs
  calls := fun s s' hs => by
    have ht := (pre_tok h hs).1
    obtain ⟨_, _, _, _, ⟨h1, h2, h3⟩ | ⟨h1, h2, h3⟩⟩ := hs
    · by_cases hk : (tokA T s).k = 3
      · by_cases hi : s.i + 1 < E
        · left
          unfold callsS
          rw [ht, h3, h.same _ hi]
        · right
          have he : s.i + 1 = E := by omega
          refine ⟨?_, hk, ?_⟩
          · unfold callsS
            rw [he, h.k0]
            simp
          · have hl := h.len
            have : nextS T s = { s with i := s.i + 1 } := if_pos (by omega)
            rw [this]
            exact .inl ⟨h1, he⟩
      · left
        unfold callsS
        rw [ht, decide_eq_false hk, Bool.false_and, Bool.false_and]
    · left
      unfold callsS
      have : (tokA T s).k = 0 := by unfold tokA; rw [h2]; exact h.k0
      rw [ht, this]
      rfl
  line := fun _ _ _ => trivial
  er := fun s s' hs => by rw [hs.1]
  next := fun s s' hs => by
    have hl := h.len
    have hl' := h.len'
    obtain ⟨a1, a2, a3, a4, ⟨h1, h2, h3⟩ | ⟨h1, h2, h3⟩⟩ := hs
    · have e1 : nextS T s = { s with i := s.i + 1 } := if_pos (by omega)
      have e2 : nextS T' s' = { s' with i := s'.i + 1 } := if_pos (by omega)
      rw [e1, e2]
      by_cases hi : s.i + 1 < E
      · exact .inr ⟨a1, a2, a3, a4, .inl ⟨h1, hi, by show s'.i + 1 = s.i + 1; omega⟩⟩
      · exact .inl (.inl ⟨h1, by show s.i + 1 = E; omega⟩)
    · have e1 : nextS T s = s := if_neg (by omega)
      have e2 : nextS T' s' = s' := if_neg (by omega)
      rw [e1, e2]
      exact .inr ⟨a1, a2, a3, a4, .inr ⟨h1, h2, h3⟩⟩
  fail := fun s s' e hs he => by
    have hl := h.len
    obtain ⟨a1, a2, a3, a4, ⟨h1, h2, h3⟩ | ⟨h1, h2, h3⟩⟩ := hs
    · have e1 : failS T e s = { s with pl := (tokA T s).p, er := e, i := T.length - 1 } := if_pos h1
      have e2 : failS T' e s' = { s' with pl := (tokA T' s').p, er := e, i := T'.length - 1 } := if_pos (by rw [a1]; exact h1)
      rw [e1, e2]
      refine .inr ⟨rfl, ?_, a3, a4, .inr ⟨by show e ≠ 0; omega, by show T.length - 1 = E; omega, rfl⟩⟩
      show (tokA T' s').p = (tokA T s).p
      unfold tokA
      rw [h3, h.same _ h2]
    · have e1 : failS T e s = s := if_neg h1
      have e2 : failS T' e s' = s' := if_neg (by rw [a1]; exact h1)
      rw [e1, e2]
      exact .inr ⟨a1, a2, a3, a4, .inr ⟨h1, h2, h3⟩⟩
  dp := fun s s' hs => by
    obtain ⟨a1, a2, a3, a4, a5⟩ := hs
    exact ⟨a3, fun d => ⟨a1, a2, rfl, a4, a5⟩⟩
  node := fun s s' k ln ln' n x l hs _ hb => by
    obtain ⟨a1, a2, a3, a4, a5⟩ := hs
    have hlen : s'.nd.length = s.nd.length := by have := congrArg List.length a4; rwa [List.length_map, List.length_map] at this
    refine .inr ⟨by omega, by rw [hlen], a1, a2, a3, ?_, a5⟩
    show (s'.nd ++ [_]).map un = (s.nd ++ [_]).map un
    rw [List.map_append, List.map_append, a4, List.map_id']
    rfl
theorem pre_zero (h : Pre T T' E A) : ∀ s s', PreR E (T'.length - 1) s s' → ((tokA T' s').k = 0 ↔ (tokA T s).k = 0) := fun s s' hs => by rw [(pre_tok h hs).1]
/-- What errors there are, and where. -/
def ErrL (T : List Tok) (s : PS) : Prop := s.i < T.length ∧ (s.er = 0 ∨ ((s.er = 20 ∨ s.er = 21) ∧ ∃ i, i < T.length ∧ s.pl = (T.getD i default).p))
theorem err_lost (T : List Tok) (hT : 0 < T.length) : LostP T (ErrL T) := by
  refine ⟨?_, ?_, ?_, ?_⟩
  · intro s hs
    obtain ⟨h1, h2⟩ := hs
    unfold nextS
    split
    · exact ⟨by show s.i + 1 < T.length; omega, h2⟩
    · exact ⟨h1, h2⟩
  · intro s e hs he
    obtain ⟨h1, h2⟩ := hs
    unfold failS
    split
    · exact ⟨by show T.length - 1 < T.length; omega, .inr ⟨he, s.i, h1, rfl⟩⟩
    · exact ⟨h1, h2⟩
  · intro s d hs; exact hs
  · intro s n hs; exact hs
end
theorem pre_of (a b : List UInt8) (ha : a.length ≤ 600) (hn : (lexL a 0).2 = none) (hb : (lexL (a ++ 10 :: b) 0).2 = none) (hl : (a ++ 10 :: b).length ≤ 900) : ∃ E, Pre (lexL a 0).1 (lexL (a ++ 10 :: b) 0).1 E a.length := by
  obtain ⟨init, h1, h2⟩ := lexL_both b a 0 hn
  have hB := lexL_endT (a ++ 10 :: b) hl hb
  obtain ⟨I, e, hI, hk, hx, _, hin⟩ := lex_tokL a.length a 0 (by omega) hn
  obtain ⟨I', e', hI', hk', hx', _, _⟩ := lex_tokL (a ++ 10 :: b).length (a ++ 10 :: b) 0 (by omega) hb
  obtain ⟨rfl, rfl⟩ : I = init ∧ e = ⟨0, [], 0 + a.length⟩ := by
    have := hI.symm.trans h1
    have h3 := List.append_inj' this rfl
    exact ⟨h3.1, List.singleton_inj.1 h3.2⟩
  have ne : (lexL b (0 + a.length + 1)).1 ≠ [] := by
    intro h0
    rw [h2, h0, List.append_nil] at hI'
    have h3 := congrArg (fun l : List Tok => l.getLast?) hI'
    simp only [List.getLast?_append, List.getLast?_singleton] at h3
    have h4 : I ≠ [] := by intro h; rw [h] at hI'; simp at hI'
    rw [List.getLast?_eq_some_getLast h4] at h3
    have h5 := hin _ (List.getLast_mem h4)
    simp at h3
    rw [h3] at h5
    exact h5.1 hk'
  refine ⟨I.length, ?_⟩
  have hE' : (lexL (a ++ 10 :: b) 0).1.length - 1 = I'.length := by rw [hI']; simp
  refine ⟨by rw [hI]; simp, ?_, hB.2.1, ?_, ?_, ?_, ?_, ?_, ?_, ?_⟩
  · rw [h2]
    show I.length < (I ++ _).length
    rw [List.length_append]
    have := List.length_pos_iff.mpr ne
    omega
  · intro i hi
    rw [h2, hI]
    show (I ++ _).getD i default = _
    rw [List.getD, List.getD, List.getElem?_append_left hi, List.getElem?_append_left hi]
  · intro i hi
    rw [hI, List.getD, List.getElem?_append_left hi, List.getElem?_eq_getElem hi]
    exact (hin _ (List.getElem_mem hi)).1
  · rw [hI]; simp [List.getD]
  · rw [hI]; simp [List.getD]
  · rw [hI]; simp [List.getD]
  · rw [hE', hI']; simpa [List.getD] using hk'
  · rw [hE', hI']; simpa [List.getD] using hx'
/-- What is refused at a token stays so, whatever stands behind it. -/
theorem refused (a b : List UInt8) (N : Nat) (hN : 6100 ≤ N) (p e : Nat) (h : allP N a = some (.inl (p, e))) (ha : a.length ≤ 600) (hn : (lexL a 0).2 = none) (he : e ≠ 4) :
    (e = 20 ∨ e = 21) ∧ (∃ i, i < (lexL a 0).1.length ∧ p = ((lexL a 0).1.getD i default).p) ∧ (p ≠ a.length → (a ++ 10 :: b).length ≤ 600 → (lexL (a ++ 10 :: b) 0).2 = none → allP N (a ++ 10 :: b) = some (.inl (p, e))) := by
  have hT := lexL_endT a (by omega) hn
  unfold allP at h
  rw [if_neg (by omega), hn] at h
  cases hm : fnsR a (lexL a 0).1 N N [] ⟨0, 0, 0, [], 0⟩ with
  | none => rw [hm] at h; cases h
  | some r =>
    rw [hm] at h
    obtain ⟨fs, s1⟩ := r
    have h : treeP fs s1 = .inl (p, e) := Option.some.inj h
    have h0 : s1.er ≠ 0 := by
      intro h0
      unfold treeP at h
      rw [if_pos h0] at h
      split at h
      · injection h with h
        injection h with h1 h2
        exact he h2.symm
      · cases h
    unfold treeP at h
    rw [if_neg h0] at h
    injection h with h
    injection h with hp he2
    have hE := mono_fns (src := a) (err_lost (lexL a 0).1 hT.1) N N [] ⟨0, 0, 0, [], 0⟩ fs s1 ⟨hT.1, .inl rfl⟩ hm
    obtain ⟨_, hE⟩ := hE
    rcases hE with hE | ⟨h1, i, hi, h2⟩
    · exact absurd hE h0
    · refine ⟨by rw [← he2]; exact h1, ⟨i, hi, by rw [← hp]; exact h2⟩, fun hpa hlen hb => ?_⟩
      obtain ⟨E, hpre⟩ := pre_of a b ha hn hb (by omega)
      have X := pre_prim (src := a) (src' := a ++ 10 :: b) hpre
      have notlost : ¬ PreL E a.length s1 := by
        rintro (⟨h3, _⟩ | ⟨_, h3⟩)
        · exact h0 h3
        · exact hpa (by rw [← hp]; exact h3)
      by_cases hE0 : 0 < E
      · rcases sq_fns X (pre_zero hpre) N N [] [] ⟨0, 0, 0, [], 0⟩ ⟨0, 0, 0, [], 0⟩ ⟨rfl, rfl, rfl, rfl, .inl ⟨rfl, hE0, rfl⟩⟩ trivial fs s1 hm with hl | ⟨fs', s1', h3, h4, _⟩
        · exact absurd hl notlost
        · unfold allP
          rw [if_neg (by omega), hb]
          show (fnsR (a ++ 10 :: b) (lexL (a ++ 10 :: b) 0).1 N N [] ⟨0, 0, 0, [], 0⟩).map (fun p => treeP p.1 p.2) = _
          rw [h3]
          show some (treeP fs' s1') = _
          unfold treeP
          rw [if_neg (by rw [h4.1]; exact h0), h4.1, h4.2.1, hp, he2]
      · have hl := mono_fns (src := a) X.lost N N [] ⟨0, 0, 0, [], 0⟩ fs s1 (.inl ⟨rfl, by show 0 = E; omega⟩) hm
        exact absurd hl notlost
end Go.Proofs.YtgelggdgbmldiaaDoor

namespace Go.Proofs.YtgelggdgbmldiaaDoor
set_option linter.unusedVariables false
set_option linter.unusedSimpArgs false
section
variable {src src' : List UInt8} {T T' : List Tok} {E A : Nat}
end
/-- What a tree is told for. -/
theorem tree_out {N : Nat} {a : List UInt8} {nd : List Nd} {fs : List Fnc} (hN : 6100 ≤ N) (h : allP N a = some (.inr (nd, fs))) : a.length ≤ 600 ∧ (lexL a 0).2 = none ∧ ∃ s1, fnsR a (lexL a 0).1 N N [] ⟨0, 0, 0, [], 0⟩ = some (fs, s1) ∧ s1.er = 0 ∧ s1.nd = nd ∧ s1.dp = 0 ∧ nd.length ≤ 300 ∧ fs.length ≤ 6 ∧ fs.any (fun f => decide (3 < f.ps.length)) = false := by
  unfold allP at h
  split at h
  · cases h
  rename_i hb
  cases hn : (lexL a 0).2 with
  | some pe => rw [hn] at h; cases h
  | none =>
    rw [hn] at h
    refine ⟨by omega, rfl, ?_⟩
    cases hm : fnsR a (lexL a 0).1 N N [] ⟨0, 0, 0, [], 0⟩ with
    | none => rw [hm] at h; cases h
    | some r =>
      rw [hm] at h
      obtain ⟨l, s1⟩ := r
      have h1 : treeP l s1 = .inr (nd, fs) := Option.some.inj h
      have hT := lexL_endT a (by omega) hn
      have hle : (lexL a 0).1.length ≤ 601 := by have := lexL_len a 0; omega
      have hmu : mu (lexL a 0).1 ⟨0, 0, 0, [], 0⟩ = (lexL a 0).1.length := rfl
      obtain ⟨fs2, s2, h3, h4⟩ := fns_runs (src := a) hT (N := N) N [] ⟨0, 0, 0, [], 0⟩ ⟨⟨hT.1, fun h => absurd rfl h⟩, by decide, by rw [hmu]; show (0 : Int) + _ ≤ _; omega, by rw [hmu]; show 0 + _ ≤ _; omega⟩ (by rw [hmu]; omega) (by rw [hmu]; omega)
      rw [hm] at h3
      injection h3 with h3
      injection h3 with h5 h6
      subst h6
      have hdp : s1.dp = 0 := h4.2.2.2
      unfold treeP at h1
      split at h1
      · rename_i h0
        split at h1
        · cases h1
        · rename_i hc
          injection h1 with h1
          injection h1 with h7 h8
          subst h7; subst h8
          simp only [Bool.or_eq_true, decide_eq_true_eq, not_or] at hc
          exact ⟨s1, rfl, h0, rfl, hdp, by omega, by omega, by simpa using hc.2⟩
      · cases h1
end Go.Proofs.YtgelggdgbmldiaaDoor

namespace Go.Proofs.YtgelggdgbmldiaaDoor
set_option linter.unusedVariables false
set_option linter.unusedSimpArgs false
/-- No error, no refusal. -/
theorem er_tree {N : Nat} {src : List UInt8} {res : Res} (h : allP N src = some res) (he : erOf res = 0) : ∃ nd fs, res = .inr (nd, fs) := by
  cases res with
  | inl pe => exact absurd he (errs_ne N src pe.1 pe.2 h)
  | inr t => exact ⟨t.1, t.2, rfl⟩
end Go.Proofs.YtgelggdgbmldiaaDoor

namespace Go.Proofs.YtgelggdgbmldiaaDoor
open Go Go.RowKit Go.Shelf
set_option linter.unusedVariables false
set_option linter.unusedSimpArgs false
def nd3 : List Nd := [⟨1, 1, 1, [], []⟩, ⟨1, 1, 2, [], []⟩, ⟨9, 1, 0, [43], [0, 1]⟩, ⟨1, 1, 3, [], []⟩, ⟨9, 1, 0, [42], [2, 3]⟩, ⟨14, 1, 0, [], [4]⟩, ⟨18, 1, 0, [], [5]⟩]
def f3 : Fnc := ⟨[109, 97, 105, 110], 1, [], 0, 6⟩
def b3 : Bl := .cons (.print (.bin [42] (.bin [43] (.int 1) (.int 2)) (.int 3))) .nil
theorem shown3_parse : allP 6100 [102, 110, 32, 109, 97, 105, 110, 40, 41, 32, 123, 32, 112, 114, 105, 110, 116, 32, 40, 49, 43, 50, 41, 32, 42, 32, 51, 59, 32, 125] = some (.inr (nd3, [f3])) := by kernel_rfl
theorem shown3_rep : RepB qshow nd3 b3 [5] := by
  unfold b3 RepB
  refine ⟨?_, by unfold RepB; trivial⟩
  unfold RepS
  have q : ∀ x, signs11.contains x = true → x ∈ signs11 := fun x h => by simpa using h
  exact ⟨4, ⟨5, 1, rfl, rfl⟩, 2, 3, ⟨4, 1, rfl, rfl⟩, q _ rfl, ⟨0, 1, ⟨2, 1, rfl, rfl⟩, q _ rfl, ⟨⟨0, 1, rfl, rfl⟩, by decide, by decide⟩, ⟨⟨1, 1, rfl, rfl⟩, by decide, by decide⟩⟩, ⟨⟨3, 1, rfl, rfl⟩, by decide, by decide⟩⟩
theorem shown3_text : ofL (textT [(f3, b3)]) = { data := #[102, 110, 32, 109, 97, 105, 110, 40, 41, 123, 10, 112, 114, 105, 110, 116, 32, 40, 49, 43, 50, 41, 42, 51, 59, 10, 125, 10] } := by kernel_rfl
set_option maxRecDepth 100000 in
set_option maxHeartbeats 16000000 in
theorem shown3_any (w : World) (hw : ShW w) : Calls Tryd.prog 15 #[] w fun e w' => e = .returned (.bool true) ∧ Keeps (fun _ => False) w w' := by
  have AC : Hid (Calls Tryd.prog 16 #[.string { data := #[102, 110, 32, 109, 97, 105, 110, 40, 41, 32, 123, 32, 112, 114, 105, 110, 116, 32, 40, 49, 43, 50, 41, 32, 42, 32, 51, 59, 32, 125] }] w fun e w' => ∃ A c A' c', e = .returned (.tuple #[.agg #[.slice A 7 c, .slice A' 1 c'], .int .i64 0, .int .i64 0]) ∧ TreeR 0 w' A A' nd3 [f3] ∧ Keeps (fun _ => False) w w') := Lib.hid (rsrc_any { data := #[102, 110, 32, 109, 97, 105, 110, 40, 41, 32, 123, 32, 112, 114, 105, 110, 116, 32, 40, 49, 43, 50, 41, 32, 42, 32, 51, 59, 32, 125] } (by decide) _ shown3_parse w)
  have HW := Lib.hid hw
  clear hw
  go_enter Tryd.func15, Tryd.ntmps15
  go_wp2_with fail
  refine AC.out.mono ?_
  rintro e w1 ⟨A, c, A', c', rfl, ht, k1⟩
  have K1 := Lib.hid k1
  have TC : Hid (∀ w2, Keeps (fun _ => False) w1 w2 → Calls Tryd.prog 22 #[.agg #[.slice A 7 c, .slice A' 1 c']] w2 fun r w' => r = .returned (.string { data := #[102, 110, 32, 109, 97, 105, 110, 40, 41, 123, 10, 112, 114, 105, 110, 116, 32, 40, 49, 43, 50, 41, 42, 51, 59, 10, 125, 10] }) ∧ Keeps (fun _ => False) w2 w') := Lib.hid (by
    intro w2 q
    rw [← shown3_text]
    exact ptext_any qshow nd3 [f3] A A' 7 1 c c' rfl rfl [(f3, b3)] rfl (fun p hp => by
      rw [List.mem_singleton.1 hp]
      exact ⟨by show (4 : Nat) ≤ 1000; omega, by decide, fun p hp => by cases hp⟩) (fun p hp => by
      rw [List.mem_singleton.1 hp]
      exact ⟨[5], ⟨6, 1, rfl, rfl⟩, shown3_rep⟩) (Nat.le_of_ble_eq_true (by kernel_rfl)) (fun p hp => by rw [List.mem_singleton.1 hp]; decide) (by omega) (fun p hp => by rw [List.mem_singleton.1 hp]; decide) w2 (HW.out.keep (k1.trans q (fun _ _ h => h))) (ht.keep q))
  have ka := Keeps.one w1 (.cells #[.slice A 7 c, .slice A' 1 c'] 27)
  have TD := Lib.hid (TC.out _ ka)
  have K3 := Lib.hid (K1.out.trans ka (fun _ _ h => h))
  clear AC k1 ht HW TC ka
  go_wp2_with fail
  refine TD.out.mono ?_
  rintro e w2 ⟨rfl, k2⟩
  have K2 := Lib.hid (K3.out.trans k2 (fun _ _ h => h))
  clear TD k2 K1 K3
  go_wp2_with fail
  go_ret
  exact ⟨rfl, K2.out⟩
end Go.Proofs.YtgelggdgbmldiaaDoor

namespace Go.Proofs.YtgelggdgbmldiaaDoor
open Go Go.ChangeShapes Go.RowKit
set_option linter.unusedVariables false
theorem below_of {f : Nat} {args : Array Value} {W : World} (h : Calls Tryd.prog f args W fun e w' => e = .returned (.bool true) ∧ Keeps (fun _ => False) W w') : Calls Tryd.prog f args W fun e w' => e = .returned (.bool true) ∧ Below W.heap.size W w' :=
  h.mono fun e w' h => ⟨h.1, h.2.toBelow (Nat.le_refl _) (fun _ h => h.elim)⟩
end Go.Proofs.YtgelggdgbmldiaaDoor

namespace Go.Proofs.YtgelggdgbmldiaaDoor
open Go Go.ChangeShapes Go.RowKit
set_option linter.unusedVariables false
theorem gPow : Tryd.prog.globalNamed "internal/strconv.uint64pow10" = some 1 := by kernel_rfl
theorem tPow : (Tryd.prog.globals[1]?).map (·.type) = some 125 := by kernel_rfl
theorem powData : Lib.tabData (H := Unit) .u64 Lib.pow10Tab = Rows.laid_internal_strconv_uint64pow10 := rfl
theorem shW_of_laid {W : World} (h : laidMetH Tryd.prog Rows.showAllRow.laid W) : ShW W := by
  rw [MakeChecks.laidMetH_plain _ _ _ (by kernel_rfl)] at h
  have h2 := laidMet.tail (laidMet.tail h)
  rw [← powData] at h2
  have hT := Lib.tabIs_of_head gPow tPow Tryd.underlying125 Tryd.underlying118 (by kernel_rfl) (by kernel_rfl) h2
  have hc := hT.cell gPow 0 (by decide)
  exact ⟨hT, fun p hp => by rw [gPow] at hp; cases hp; simpa using World.block_lt_of_cell? W _ hc⟩
end Go.Proofs.YtgelggdgbmldiaaDoor
