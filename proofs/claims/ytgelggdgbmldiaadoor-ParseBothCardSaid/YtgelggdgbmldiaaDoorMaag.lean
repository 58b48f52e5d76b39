/-
  Layer 2: two sources, one behind the other (data, the whole). Written by an AI agent.
  Layer 2: the nodes that the program's parser makes stand as they should. Written by an AI agent.
  Layer 2: what ParseBelow asks of the nodes, as data. Written by an AI agent.
  Layer 2: the cursor's functions. Written by an AI agent.
  Layer 2: the cursor's line, and what it looks for. Written by an AI agent.
-/
import Derived.Test.YtgelggdgbmldiaaDoorMaaf
import Derived.Test.YtgelggdgbmldiaaDoorMaaa
import Derived.Test.YtgelggdgbmldiaaDoorMaac
import Derived.Test.YtgelggdgbmldiaaDoorMaae
import Derived.Shelf.Slices.Turned
import Derived.Lib.SlicesS
namespace Go.Proofs.YtgelggdgbmldiaaDoor
set_option linter.unusedVariables false
set_option linter.unusedSimpArgs false

def preM (T : List Tok) (N : Nat) : PM (List UInt8 × List (List UInt8 × Int) × Int) := do
  mod (wantS T [102, 110])
  let x ← ask (nameX T)
  mod (nameS T)
  mod (wantS T [40])
  let ps ← paramsM T N
  mod (wantS T [41])
  let r ← retM T
  pure (x, ps, r)
theorem function_pre (src : List UInt8) (T : List Tok) (N : Nat) : functionM src T N = (ask (lineS src T) >>= fun ln => preM T N >>= fun q => blockM src T N (stM src T N N) >>= fun y => pure ⟨q.1, ln, q.2.1, q.2.2, y⟩) := by
  unfold functionM preM
  simp only [bind_assoc, pure_bind]

section
variable {src src' : List UInt8} {T T' : List Tok} {E A : Nat}
theorem sq_pre {Rel : PS → PS → Prop} {Lost : PS → Prop} {ph : Int → Int} {RL : Int → Int → Prop} (X : Prim src src' T T' Rel Lost ph RL) (N : Nat) {s s' : PS} (hs : Rel s s') : SqAt Rel Lost (fun a b => b = a) (preM T N) (preM T' N) s s' := by
  unfold preM
  refine SqAt.both (rel_want X hs _) (Mono.ask fun _ => Mono.name X.lost (Mono.want X.lost ((mono_paramsM X.lost N).bind fun _ => Mono.want X.lost ((mono_ret X.lost).bind fun _ => Mono.ret)))) ?_
  intro ht
  refine SqAt.asks ?_
  rw [rel_nameX X ht]
  refine SqAt.both (rel_name X ht) (Mono.want X.lost ((mono_paramsM X.lost N).bind fun _ => Mono.want X.lost ((mono_ret X.lost).bind fun _ => Mono.ret))) ?_
  intro hu
  refine SqAt.both (rel_want X hu _) ((mono_paramsM X.lost N).bind fun _ => Mono.want X.lost ((mono_ret X.lost).bind fun _ => Mono.ret)) ?_
  intro hv
  refine SqAt.bind (sq_paramsM X N hv) (fun _ => Mono.want X.lost ((mono_ret X.lost).bind fun _ => Mono.ret)) ?_
  intro ps ps' w w' hw hps
  refine SqAt.both (rel_want X hw _) ((mono_ret X.lost).bind fun _ => Mono.ret) ?_
  intro hz
  refine SqAt.bind (sq_ret X hz) (fun _ => Mono.ret) ?_
  intro r r' p p' hp hr
  exact SqAt.ret hp (by rw [show r' = r from hr, show ps' = ps from hps])
theorem function_both (h : Pre T T' E A) {N : Nat} {s s' t : PS} {f : Fnc} (hs : PreR E (T'.length - 1) s s') (e : functionM src T N s = some (f, t)) (h0 : t.er = 0) :
    ∃ f' t', functionM src' T' N s' = some (f', t') ∧ RF (fun x => x) (fun _ _ => True) f f' ∧ t'.i = t.i ∧ t'.pl = t.pl ∧ t'.er = 0 ∧ t'.dp = t.dp ∧ t'.nd.map un = t.nd.map un ∧ t.i ≤ E := by
  have X := pre_prim (src := src) (src' := src') h
  rw [function_pre] at e ⊢
  have e : (preM T N >>= fun q => blockM src T N (stM src T N N) >>= fun y => pure (⟨q.1, lineS src T s, q.2.1, q.2.2, y⟩ : Fnc)) s = some (f, t) := e
  obtain ⟨q, u, e1, e2⟩ := bind_out e
  obtain ⟨y, v, e3, e4⟩ := bind_out e2
  have e4 := pure_out e4
  injection e4 with e5 e6
  subst e6
  rcases sq_pre X N hs q u e1 with hl | ⟨q', u', f1, hu, hq⟩
  · exact absurd h0 (block_lost h (mono_st (er_lost T) N N) hl e3)
  · have hq : q' = q := hq
    subst hq
    obtain ⟨v', f2, f3, fp, f4, f5, f6, f7⟩ := block_both h (sq_st X N N) (mono_st X.lost N N) hu e3 h0
    refine ⟨⟨q'.1, lineS src' T' s', q'.2.1, q'.2.2, y⟩, v', ?_, ?_, f3, fp, f4, f5, f6, f7⟩
    · show (preM T' N >>= fun q => blockM src' T' N (stM src' T' N N) >>= fun y => pure (⟨q.1, lineS src' T' s', q.2.1, q.2.2, y⟩ : Fnc)) s' = _
      exact (bind_in f1).trans ((bind_in f2).trans rfl)
    · rw [e5]
      exact ⟨rfl, trivial, rfl, rfl, rfl⟩
theorem fns_both (h : Pre T T' E A) {N : Nat} : ∀ n (l l' : List Fnc) (s s' : PS) (F : List Fnc) (s1 : PS), PreR E (T'.length - 1) s s' → RFs (fun x => x) (fun _ _ => True) l l' → fnsR src T N n l s = some (F, s1) → s1.er = 0 → ∀ n' F' S', fnsR src' T' N n' l' s' = some (F', S') →
    ∃ n'' l'' t, fnsR src' T' N n'' l'' t = some (F', S') ∧ t.i = E ∧ t.er = 0 ∧ t.dp = s1.dp ∧ t.nd.map un = s1.nd.map un ∧ RFs (fun x => x) (fun _ _ => True) F l'' := by
  intro n
  induction n with
  | zero => intro l l' s s' F s1 _ _ e; cases e
  | succ n ih =>
    intro l l' s s' F s1 hs hl e h1 n' F' S' e'
    have X := pre_prim (src := src) (src' := src') h
    unfold fnsR at e
    have e : (if (decide (s.er = 0) && !(decide ((tokA T s).k = 0))) = true then (do let x ← functionM src T N; fnsR src T N n (l ++ [x])) else pure l : PM (List Fnc)) s = some (F, s1) := e
    have hs0 := hs
    obtain ⟨a1, a2, a3, a4, ⟨b1, b2, b3⟩ | ⟨b1, b2, b3⟩⟩ := hs
    · have hk : (tokA T s).k ≠ 0 := h.inner _ b2
      rw [decide_eq_true b1, decide_eq_false hk, if_pos (show (true && !false) = true from rfl)] at e
      obtain ⟨f, t, e1, e2⟩ := bind_out e
      have ht0 : t.er = 0 := by
        by_cases h3 : t.er = 0
        · exact h3
        · exact absurd h1 (mono_fns (er_lost T) N n _ t F s1 h3 e2)
      obtain ⟨f', t', f1, f2, f3, fp, f4, f5, f6, f7⟩ := function_both h (src' := src') hs0 e1 ht0
      cases n' with
      | zero => cases e'
      | succ n' =>
        unfold fnsR at e'
        have e' : (if (decide (s'.er = 0) && !(decide ((tokA T' s').k = 0))) = true then (do let x ← functionM src' T' N; fnsR src' T' N n' (l' ++ [x])) else pure l' : PM (List Fnc)) s' = some (F', S') := e'
        rw [a1, decide_eq_true b1, (pre_tok h hs0).1, decide_eq_false hk, if_pos (show (true && !false) = true from rfl)] at e'
        obtain ⟨g, v, e3, e4⟩ := bind_out e'
        rw [f1] at e3
        injection e3 with e3
        injection e3 with e5 e6
        subst e5; subst e6
        by_cases hi : t.i < E
        · -- goes on
          exact ih _ _ t t' F s1 ⟨by rw [f4]; exact ht0.symm, fp, f5, f6, .inl ⟨ht0, hi, f3⟩⟩ (hl.more f2) e2 h1 n' F' S' e4
        · have hi : t.i = E := by omega
          cases n with
          | zero => cases e2
          | succ n =>
            unfold fnsR at e2
            have e2 : (if (decide (t.er = 0) && !(decide ((tokA T t).k = 0))) = true then (do let x ← functionM src T N; fnsR src T N n (l ++ [f] ++ [x])) else pure (l ++ [f]) : PM (List Fnc)) t = some (F, s1) := e2
            rw [show (tokA T t).k = 0 by unfold tokA; rw [hi]; exact h.k0, decide_eq_true rfl, Bool.not_true, Bool.and_false, if_neg (by decide)] at e2
            have e2 := pure_out e2
            injection e2 with e7 e8
            subst e7; subst e8
            exact ⟨n', _, t', e4, by omega, f4, f5, f6, hl.more f2⟩
    · rw [decide_eq_false b1, Bool.false_and, if_neg (by decide)] at e
      have e := pure_out e
      injection e with e7 e8
      subst e8
      exact absurd h1 b1

/-- A node with its numbers moved, without its line. -/
def shN (D : Nat) (n : Nd) : Nd := { n with ln := 0, l := n.l.map (fun x => x + (D : Int)) }
/-- The second row of tokens, as it stands behind the first one's. -/
structure Aft (T T' : List Tok) (E : Nat) : Prop where
  len : T'.length = E + T.length
  ne : 0 < T.length
  same : ∀ j, j < T.length → (T'.getD (E + j) default).k = (T.getD j default).k ∧ (T'.getD (E + j) default).x = (T.getD j default).x
def AftR (T : List Tok) (E : Nat) (D0 : List Nd) (s s' : PS) : Prop := s.er = 0 ∧ s'.er = 0 ∧ s.i < T.length ∧ s'.i = E + s.i ∧ s'.dp = s.dp ∧ s'.nd.map un = D0 ++ s.nd.map (shN D0.length)
def AftL (D : Nat) (s : PS) : Prop := s.er ≠ 0 ∨ 100000 ≤ s.nd.length + D
theorem aft_lost (T : List Tok) (D : Nat) : LostP T (AftL D) := by
  refine ⟨?_, ?_, ?_, ?_⟩
  · intro s hs
    unfold nextS
    split
    · exact hs
    · exact hs
  · intro s e hs he
    unfold failS
    split
    · exact .inl (by show e ≠ 0; omega)
    · exact hs
  · intro s d hs; exact hs
  · intro s n hs
    rcases hs with h | h
    · exact .inl h
    · refine .inr ?_
      show 100000 ≤ (s.nd ++ [n]).length + D
      rw [List.length_append]
      omega
theorem aft_tok (h : Aft T T' E) {D0 : List Nd} {s s' : PS} (hs : AftR T E D0 s s') : (tokA T' s').k = (tokA T s).k ∧ (tokA T' s').x = (tokA T s).x := by
  obtain ⟨_, _, h1, h2, _, _⟩ := hs
  unfold tokA
  rw [h2]
  exact h.same _ h1
theorem aft_prim (h : Aft T T' E) (D0 : List Nd) : Prim src src' T T' (AftR T E D0) (AftL D0.length) (fun x => x + (D0.length : Int)) (fun _ _ => True) where
  lost := aft_lost T D0.length
  is_ := fun s s' ts hs => by
    obtain ⟨h1, h2⟩ := aft_tok h hs
    unfold isS
    rw [h1, h2]
  tok := fun s s' hs => aft_tok h hs
  calls := fun s s' hs => by
    left
    have ht := (aft_tok h hs).1
    obtain ⟨_, _, h1, h2, _, _⟩ := hs
    unfold callsS
    rw [ht, h2, show E + s.i + 1 = E + (s.i + 1) by omega]
    by_cases hi : s.i + 1 < T.length
    · obtain ⟨h3, h4⟩ := h.same _ hi
      rw [h3, h4]
    · have hl := h.len
      rw [List.getD, List.getD, List.getElem?_eq_none (by omega), List.getElem?_eq_none (by omega)]
  line := fun _ _ _ => trivial
  er := fun s s' hs => by rw [hs.1, hs.2.1]
  next := fun s s' hs => by
    have hl := h.len
    obtain ⟨h1, h2, h3, h4, h5, h6⟩ := hs
    by_cases hi : s.i < T.length - 1
    · have e1 : nextS T s = { s with i := s.i + 1 } := if_pos hi
      have e2 : nextS T' s' = { s' with i := s'.i + 1 } := if_pos (by omega)
      rw [e1, e2]
      exact .inr ⟨h1, h2, by show s.i + 1 < T.length; omega, by show s'.i + 1 = E + (s.i + 1); omega, h5, h6⟩
    · have e1 : nextS T s = s := if_neg hi
      have e2 : nextS T' s' = s' := if_neg (by omega)
      rw [e1, e2]
      exact .inr ⟨h1, h2, h3, h4, h5, h6⟩
  fail := fun s s' e hs he => by
    have e1 : failS T e s = { s with pl := (tokA T s).p, er := e, i := T.length - 1 } := if_pos hs.1
    rw [e1]
    exact .inl (.inl (by show e ≠ 0; omega))
  dp := fun s s' hs => by
    obtain ⟨h1, h2, h3, h4, h5, h6⟩ := hs
    exact ⟨h5, fun d => ⟨h1, h2, h3, h4, rfl, h6⟩⟩
  node := fun s s' k ln ln' n x l hs _ hb => by
    obtain ⟨h1, h2, h3, h4, h5, h6⟩ := hs
    have hlen : s'.nd.length = D0.length + s.nd.length := by
      have := congrArg List.length h6
      rwa [List.length_map, List.length_append, List.length_map] at this
    by_cases hb2 : s.nd.length + D0.length < 100000
    · refine .inr ⟨by omega, by rw [hlen]; omega, h1, h2, h3, h4, h5, ?_⟩
      show (s'.nd ++ [_]).map un = D0 ++ (s.nd ++ [_]).map _
      rw [List.map_append, List.map_append, h6, List.append_assoc]
      rfl
    · left
      refine .inr ?_
      show 100000 ≤ (s.nd ++ [_]).length + D0.length
      rw [List.length_append]
      omega
theorem fns_aft (h : Aft T T' E) (D0 : List Nd) {N : Nat} : ∀ n (l l' : List Fnc) (s s' : PS) (F : List Fnc) (s1 : PS), AftR T E D0 s s' → fnsR src T N n l s = some (F, s1) → ¬ AftL D0.length s1 → ∀ n' F' S', fnsR src' T' N n' l' s' = some (F', S') →
    ∃ m m', F = l ++ m ∧ F' = l' ++ m' ∧ RFs (fun x => x + (D0.length : Int)) (fun _ _ => True) m m' ∧ AftR T E D0 s1 S' := by
  intro n
  induction n with
  | zero => intro l l' s s' F s1 _ e; cases e
  | succ n ih =>
    intro l l' s s' F s1 hs e hn n' F' S' e'
    have X := aft_prim (src := src) (src' := src') h D0
    cases n' with
    | zero => cases e'
    | succ n' =>
      unfold fnsR at e e'
      have e : (if (decide (s.er = 0) && !(decide ((tokA T s).k = 0))) = true then (do let x ← functionM src T N; fnsR src T N n (l ++ [x])) else pure l : PM (List Fnc)) s = some (F, s1) := e
      have e' : (if (decide (s'.er = 0) && !(decide ((tokA T' s').k = 0))) = true then (do let x ← functionM src' T' N; fnsR src' T' N n' (l' ++ [x])) else pure l' : PM (List Fnc)) s' = some (F', S') := e'
      rw [hs.2.1, (aft_tok h hs).1] at e'
      rw [hs.1] at e
      by_cases hk : (decide ((0 : Nat) = 0) && !(decide ((tokA T s).k = 0))) = true
      · rw [if_pos hk] at e e'
        obtain ⟨f, t, e1, e2⟩ := bind_out e
        obtain ⟨g, v, e3, e4⟩ := bind_out e'
        rcases sq_function X N hs f t e1 with hl | ⟨f', t', f1, ht, hf⟩
        · exact absurd (mono_fns X.lost N n _ t F s1 hl e2) hn
        · rw [f1] at e3
          injection e3 with e3
          injection e3 with e5 e6
          subst e5; subst e6
          obtain ⟨m, m', h1, h2, h3, h4⟩ := ih _ _ t t' F s1 ht e2 hn n' F' S' e4
          exact ⟨f :: m, f' :: m', by rw [h1, List.append_assoc]; rfl, by rw [h2, List.append_assoc]; rfl, ⟨hf, h3⟩, h4⟩
      · rw [if_neg hk] at e e'
        have e := pure_out e
        have e' := pure_out e'
        injection e with e7 e8
        injection e' with e9 e10
        subst e7; subst e8; subst e9; subst e10
        exact ⟨[], [], by rw [List.append_nil], by rw [List.append_nil], trivial, hs⟩
end

theorem aft_of (a b : List UInt8) (hn : (lexL a 0).2 = none) (hb : (lexL b 0).2 = none) : (lexL (a ++ 10 :: b) 0).2 = none ∧ ∃ E, (lexL a 0).1.length = E + 1 ∧ Aft (lexL b 0).1 (lexL (a ++ 10 :: b) 0).1 E := by
  obtain ⟨init, h1, h2⟩ := lexL_both b a 0 hn
  have hs := lexL_shift (0 + a.length + 1) b 0
  rw [Nat.zero_add] at hs
  rw [hs] at h2
  refine ⟨by rw [h2, hb]; rfl, init.length, by rw [h1]; simp, by rw [h2]; simp, List.length_pos_iff.mpr (lexL_ne b 0 hb), fun j hj => ?_⟩
  rw [h2]
  have e1 : (init ++ (lexL b 0).1.map (Tok.up (0 + a.length + 1))).getD (init.length + j) default = Tok.up (0 + a.length + 1) (lexL b 0).1[j] := by
    rw [List.getD, List.getElem?_append_right (by omega), show init.length + j - init.length = j by omega, List.getElem?_map, List.getElem?_eq_getElem hj]
    rfl
  have e2 : (lexL b 0).1.getD j default = (lexL b 0).1[j] := by rw [List.getD, List.getElem?_eq_getElem hj]; rfl
  show ((init ++ (lexL b 0).1.map (Tok.up (0 + a.length + 1))).getD (init.length + j) default).k = _ ∧ ((init ++ (lexL b 0).1.map (Tok.up (0 + a.length + 1))).getD (init.length + j) default).x = _
  rw [e1, e2]
  exact ⟨rfl, rfl⟩

theorem RFs.len {ph : Int → Int} {RL : Int → Int → Prop} : ∀ {l l' : List Fnc}, RFs ph RL l l' → l'.length = l.length
  | [], [], _ => rfl
  | _ :: l, _ :: l', h => by rw [List.length_cons, List.length_cons, RFs.len h.2]
  | [], _ :: _, h => h.elim
  | _ :: _, [], h => h.elim
theorem RFs.any {ph : Int → Int} {RL : Int → Int → Prop} : ∀ {l l' : List Fnc}, RFs ph RL l l' → l'.any (fun f => decide (3 < f.ps.length)) = l.any (fun f => decide (3 < f.ps.length))
  | [], [], _ => rfl
  | _ :: l, _ :: l', h => by rw [List.any_cons, List.any_cons, RFs.any h.2, h.1.2.2.1]
  | [], _ :: _, h => h.elim
  | _ :: _, [], h => h.elim
/-- What a tree is told for. -/
theorem tree_out {N : Nat} {a : List UInt8} {nd : List Nd} {fs : List Fnc} (hN : 6100 ≤ N) (h : allP N a = some (.inr (nd, fs))) : a.length ≤ 600 ∧ (lexL a 0).2 = none ∧ ∃ s1, fnsR a (lexL a 0).1 N N [] ⟨0, 0, 0, [], 0⟩ = some (fs, s1) ∧ s1.er = 0 ∧ s1.nd = nd ∧ s1.dp = 0 ∧ nd.length ≤ 300 ∧ fs.length ≤ 6 ∧ fs.any (fun f => decide (3 < f.ps.length)) = false := by
  unfold allP at h
  split at h
  · cases h
  rename_i hb
  cases hn : (lexL a 0).2 with
  | some pe => rw [hn] at h; cases h
  | none =>
    rw [hn] at h
    refine ⟨by omega, rfl, ?_⟩
    cases hm : fnsR a (lexL a 0).1 N N [] ⟨0, 0, 0, [], 0⟩ with
    | none => rw [hm] at h; cases h
    | some r =>
      rw [hm] at h
      obtain ⟨l, s1⟩ := r
      have h1 : treeP l s1 = .inr (nd, fs) := Option.some.inj h
      have hT := lexL_endT a (by omega) hn
      have hle : (lexL a 0).1.length ≤ 601 := by have := lexL_len a 0; omega
      have hmu : mu (lexL a 0).1 ⟨0, 0, 0, [], 0⟩ = (lexL a 0).1.length := rfl
      obtain ⟨fs2, s2, h3, h4⟩ := fns_runs (src := a) hT (N := N) N [] ⟨0, 0, 0, [], 0⟩ ⟨⟨hT.1, fun h => absurd rfl h⟩, by decide, by rw [hmu]; show (0 : Int) + _ ≤ _; omega, by rw [hmu]; show 0 + _ ≤ _; omega⟩ (by rw [hmu]; omega) (by rw [hmu]; omega)
      rw [hm] at h3
      injection h3 with h3
      injection h3 with h5 h6
      subst h6
      have hdp : s1.dp = 0 := h4.2.2.2
      unfold treeP at h1
      split at h1
      · rename_i h0
        split at h1
        · cases h1
        · rename_i hc
          injection h1 with h1
          injection h1 with h7 h8
          subst h7; subst h8
          simp only [Bool.or_eq_true, decide_eq_true_eq, not_or] at hc
          exact ⟨s1, rfl, h0, rfl, hdp, by omega, by omega, by simpa using hc.2⟩
      · cases h1

/-- What is told of two sources, one behind the other. -/
theorem both_data (a b : List UInt8) (nda ndb : List Nd) (fa fb : List Fnc) (ha : allP 6100 a = some (.inr (nda, fa))) (hb : allP 6100 b = some (.inr (ndb, fb))) (hl : (a ++ 10 :: b).length ≤ 600) :
    (300 < nda.length + ndb.length ∨ 6 < fa.length + fb.length → allP 6100 (a ++ 10 :: b) = some (.inl (0, 4))) ∧
    (¬ (300 < nda.length + ndb.length ∨ 6 < fa.length + fb.length) → ∃ ndx fx fx', allP 6100 (a ++ 10 :: b) = some (.inr (ndx, fx ++ fx')) ∧ ndx.map un = nda.map un ++ ndb.map (shN nda.length) ∧ RFs (fun x => x) (fun _ _ => True) fa fx ∧ RFs (fun x => x + (nda.length : Int)) (fun _ _ => True) fb fx') := by
  obtain ⟨la, na, sa, ea, ea0, end_a, eadp, a300, a6, aany⟩ := tree_out (Nat.le_refl _) ha
  obtain ⟨lb, nb, sb, eb, eb0, end_b, ebdp, b300, b6, bany⟩ := tree_out (Nat.le_refl _) hb
  obtain ⟨hlex, E, hE, hA⟩ := aft_of a b na nb
  obtain ⟨E2, hpre⟩ := pre_of a b (by omega) na hlex (by omega)
  have hEE : E2 = E := by have := hpre.len; omega
  subst hEE
  obtain ⟨res, hres⟩ := allP_some (a ++ 10 :: b) 6100 (Nat.le_refl _)
  -- the run of both
  have hrun : ∃ F S, fnsR (a ++ 10 :: b) (lexL (a ++ 10 :: b) 0).1 6100 6100 [] ⟨0, 0, 0, [], 0⟩ = some (F, S) ∧ treeP F S = res := by
    unfold allP at hres
    rw [if_neg (by omega), hlex] at hres
    cases hm : fnsR (a ++ 10 :: b) (lexL (a ++ 10 :: b) 0).1 6100 6100 [] ⟨0, 0, 0, [], 0⟩ with
    | none => rw [hm] at hres; cases hres
    | some r =>
      rw [hm] at hres
      exact ⟨r.1, r.2, rfl, Option.some.inj hres⟩
  obtain ⟨F, S, hF, hFS⟩ := hrun
  have hmid : ∃ n'' l'' t, fnsR (a ++ 10 :: b) (lexL (a ++ 10 :: b) 0).1 6100 n'' l'' t = some (F, S) ∧ t.i = E2 ∧ t.er = 0 ∧ t.dp = 0 ∧ t.nd.map un = nda.map un ∧ RFs (fun x => x) (fun _ _ => True) fa l'' := by
    by_cases h0 : 0 < E2
    · obtain ⟨n'', l'', t, h1, h2, h3, h4, h5, h6⟩ := fns_both hpre (src' := a ++ 10 :: b) 6100 [] [] ⟨0, 0, 0, [], 0⟩ ⟨0, 0, 0, [], 0⟩ fa sa ⟨rfl, rfl, rfl, rfl, .inl ⟨rfl, h0, rfl⟩⟩ trivial ea ea0 6100 F S hF
      exact ⟨n'', l'', t, h1, h2, h3, by rw [h4, eadp], by rw [h5, end_a], h6⟩
    · have hz : E2 = 0 := by omega
      unfold fnsR at ea
      have ea : (if (decide ((0 : Nat) = 0) && !(decide ((tokA (lexL a 0).1 ⟨0, 0, 0, [], 0⟩).k = 0))) = true then _ else _ : PM (List Fnc)) ⟨0, 0, 0, [], 0⟩ = some (fa, sa) := ea
      rw [show (tokA (lexL a 0).1 ⟨0, 0, 0, [], 0⟩).k = 0 by have := hpre.k0; rw [hz] at this; exact this, if_neg (by decide)] at ea
      have ea := pure_out ea
      injection ea with e7 e8
      subst e7
      rw [e8] at end_a
      exact ⟨6100, [], ⟨0, 0, 0, [], 0⟩, hF, by rw [hz], rfl, rfl, by rw [← end_a], trivial⟩
  obtain ⟨n'', l'', t, h1, h2, h3, h4, h5, h6⟩ := hmid
  have hD : (nda.map un).length = nda.length := List.length_map ..
  obtain ⟨m, m', h7, h8, h9, h10⟩ := fns_aft hA (nda.map un) (src := b) (src' := a ++ 10 :: b) 6100 [] l'' ⟨0, 0, 0, [], 0⟩ t fb sb ⟨rfl, h3, hA.ne, by rw [h2]; rfl, h4, by rw [h5]; exact (List.append_nil _).symm⟩ eb (by
    rintro (h | h)
    · exact h eb0
    · rw [end_b, hD] at h; omega) n'' F S h1
  have h7 : fb = m := h7
  subst h7
  rw [hD] at h9
  obtain ⟨_, hS0, _, _, _, hSn⟩ := h10
  rw [hD, end_b] at hSn
  have hSl : S.nd.length = nda.length + ndb.length := by
    have := congrArg List.length hSn
    rwa [List.length_map, List.length_append, List.length_map, List.length_map] at this
  have hFl : F.length = fa.length + fb.length := by rw [h8, List.length_append, h6.len, h9.len]
  have hFa : F.any (fun f => decide (3 < f.ps.length)) = false := by rw [h8, List.any_append, h6.any, h9.any, aany, bany]; rfl
  unfold treeP at hFS
  rw [if_pos hS0, hSl, hFl, hFa, Bool.or_false] at hFS
  constructor
  · intro hbig
    rw [if_pos (by rcases hbig with h | h <;> simp [h])] at hFS
    rw [hres, ← hFS]
  · intro hfit
    rw [if_neg (by rw [Bool.or_eq_true, decide_eq_true_eq, decide_eq_true_eq]; exact hfit)] at hFS
    exact ⟨S.nd, l'', m', by rw [hres, ← hFS, h8], hSn, h6, h9⟩
end Go.Proofs.YtgelggdgbmldiaaDoor

namespace Go.Proofs.YtgelggdgbmldiaaDoor
set_option linter.unusedVariables false
set_option linter.unusedSimpArgs false

def Part {α : Type} (m : PM α) (s : PS) (Q : α → PS → Prop) : Prop := ∀ a s', m s = some (a, s') → Q a s'
theorem Part.bind {α β : Type} {m : PM α} {f : α → PM β} {s : PS} {R : α → PS → Prop} {Q : β → PS → Prop} (h : Part m s R) (h2 : ∀ a s', R a s' → Part (f a) s' Q) : Part (m >>= f) s Q := by
  intro b s2 hb
  obtain ⟨a, s1, h1, h3⟩ := bind_out hb
  exact h2 a s1 (h a s1 h1) b s2 h3
theorem Part.pure {α : Type} {a : α} {s : PS} {Q : α → PS → Prop} (h : Q a s) : Part (pure a) s Q := by
  intro b s2 hb
  have := pure_out hb
  cases this
  exact h
theorem Part.none {α : Type} {s : PS} {Q : α → PS → Prop} : Part (fun _ => none) s Q := by
  intro b s2 hb
  cases hb
theorem Part.ask {α β : Type} {g : PS → α} {f : α → PM β} {s : PS} {Q : β → PS → Prop} (h : Part (f (g s)) s Q) : Part (ask g >>= f) s Q :=
  Part.bind (R := fun a s' => a = g s ∧ s' = s) (by intro a s' h; cases h; exact ⟨rfl, rfl⟩) (by rintro a s' ⟨rfl, rfl⟩; exact h)
theorem Part.mod {β : Type} {g : PS → PS} {f : Unit → PM β} {s : PS} {Q : β → PS → Prop} (h : Part (f ()) (g s) Q) : Part (mod g >>= f) s Q :=
  Part.bind (R := fun a s' => s' = g s) (by intro a s' h; cases h; rfl) (by rintro a s' rfl; exact h)
theorem Part.mono {α : Type} {m : PM α} {s : PS} {Q R : α → PS → Prop} (h : Part m s Q) (k : ∀ a s', Q a s' → R a s') : Part m s R :=
  fun a s' he => k a s' (h a s' he)

/-- How many are below a node of a kind. -/
def manyK (k : Int) (n : Nat) : Bool :=
  (decide (k = 1 ∨ k = 2 ∨ k = 3 ∨ k = 4 ∨ k = 19) && decide (n = 0)) || (decide (k = 5 ∨ k = 6 ∨ k = 7 ∨ k = 8 ∨ k = 10 ∨ k = 11 ∨ k = 13 ∨ k = 14 ∨ k = 20) && decide (n = 1)) ||
  (decide (k = 9 ∨ k = 12 ∨ k = 16) && decide (n = 2)) || (decide (k = 15) && decide (n = 2 ∨ n = 3)) || (decide (k = 17) && decide (n ≤ 1)) || decide (k = 18 ∨ k = 21)

/-- Nodes from a place on, and which of them have none above. -/
inductive Fo : Nat → List Nd → List Int → Prop
  | nil (b : Nat) : Fo b [] []
  | cat {b : Nat} {nd nd' : List Nd} {xs ys : List Int} : Fo b nd xs → Fo (b + nd.length) nd' ys → Fo b (nd ++ nd') (xs ++ ys)
  | node {b : Nat} {nd : List Nd} (n : Nd) : Fo b nd n.l → (∀ m ∈ nd, n.ln ≤ m.ln) → manyK n.k n.l.length = true → Fo b (nd ++ [n]) [((b + nd.length : Nat) : Int)]

section
variable (src : List UInt8) (T : List Tok)
/-- Lines rise. -/
def LnT : Prop := 0 < T.length ∧ ∀ i j, i ≤ j → j < T.length → lineL src ((T.getD i default).p : Int) ≤ lineL src ((T.getD j default).p : Int)

def G (s0 : PS) (xs : List Int) (s : PS) : Prop :=
  s0.i ≤ s.i ∧ s.i < T.length ∧ ∃ nd, s.nd = s0.nd ++ nd ∧ Fo s0.nd.length nd xs ∧ ∀ m ∈ nd, lineS src T s0 ≤ m.ln

variable {src T}
theorem G.self {s : PS} (h : s.i < T.length) : G src T s [] s :=
  ⟨Nat.le_refl _, h, [], (List.append_nil _).symm, Fo.nil _, fun m hm => by cases hm⟩
theorem G.of {s0 s s' : PS} {xs : List Int} (h : G src T s0 xs s) (h1 : s'.nd = s.nd) (h2 : s.i ≤ s'.i) (h3 : s'.i < T.length) : G src T s0 xs s' := by
  obtain ⟨a, b, nd, c⟩ := h
  exact ⟨Nat.le_trans a h2, h3, nd, by rw [h1]; exact c⟩
theorem G.cat (hL : LnT src T) {s0 s s' : PS} {xs ys : List Int} (h : G src T s0 xs s) (h' : G src T s ys s') : G src T s0 (xs ++ ys) s' := by
  obtain ⟨a, b, nd, c, d, e⟩ := h
  obtain ⟨a', b', nd', c', d', e'⟩ := h'
  refine ⟨Nat.le_trans a a', b', nd ++ nd', by rw [c', c, List.append_assoc], d.cat (by rw [← List.length_append, ← c]; exact d'), ?_⟩
  intro m hm
  rcases List.mem_append.mp hm with h | h
  · exact e m h
  · have h1 := e' m h
    have h2 := hL.2 s0.i s.i a b
    have h3 : lineS src T s0 ≤ lineS src T s := by
      unfold lineS tokA
      exact Int.ofNat_le.mpr h2
    exact Int.le_trans h3 h1
theorem G.node {s0 s : PS} {xs : List Int} (h : G src T s0 xs s) (n : Nd) (hln : n.ln = lineS src T s0) (hk : manyK n.k xs.length = true) :
    Part (nodeM n xs) s (fun x s' => G src T s0 [x] s' ∧ (s'.nd.getD x.toNat ⟨0, 0, 0, [], []⟩).k = n.k ∧ 0 ≤ x) := by
  intro x s' hx
  unfold nodeM at hx
  split at hx
  · cases hx
    obtain ⟨a, b, nd, c, d, e⟩ := h
    refine ⟨⟨a, b, nd ++ [{ n with l := xs }], ?_, ?_, ?_⟩, ?_, Int.natCast_nonneg _⟩
    · show s.nd ++ _ = _
      rw [c, List.append_assoc]
    · have h2 := Fo.node (b := s0.nd.length) (nd := nd) { n with l := xs } d (fun m hm => by show n.ln ≤ _; rw [hln]; exact e m hm) hk
      have h3 : s.nd.length = s0.nd.length + nd.length := by rw [c, List.length_append]
      rw [h3]
      exact h2
    · intro m hm
      rcases List.mem_append.mp hm with h | h
      · exact e m h
      · rw [List.mem_singleton.mp h]
        exact Int.le_of_eq hln.symm
    · show ((s.nd ++ [_]).getD (Int.toNat (s.nd.length : Int)) _).k = _
      rw [Int.toNat_natCast, List.getD_eq_getElem?_getD, List.getElem?_append_right (Nat.le_refl _), Nat.sub_self]
      rfl
  · cases hx

theorem G.next {s0 s : PS} {xs : List Int} (h : G src T s0 xs s) : G src T s0 xs (nextS T s) := by
  unfold nextS
  split
  · exact h.of rfl (Nat.le_succ _) (by show s.i + 1 < _; omega)
  · exact h
theorem G.fail {s0 s : PS} {xs : List Int} (h : G src T s0 xs s) (e : Nat) : G src T s0 xs (failS T e s) := by
  unfold failS
  have := h.2.1
  split
  · exact h.of rfl (by show s.i ≤ T.length - 1; omega) (by show T.length - 1 < _; omega)
  · exact h
theorem G.want {s0 s : PS} {xs : List Int} (h : G src T s0 xs s) (x : List UInt8) : G src T s0 xs (wantS T x s) := by
  unfold wantS
  split
  · exact h.next
  · exact h.fail 20
theorem G.name {s0 s : PS} {xs : List Int} (h : G src T s0 xs s) : G src T s0 xs (nameS T s) := by
  unfold nameS
  split
  · exact h.next
  · exact h.fail 20
theorem G.deep {s0 s : PS} {xs : List Int} (h : G src T s0 xs s) (d : Int) : Part (deepS d) s (fun _ s' => G src T s0 xs s') := by
  intro x s' hx
  unfold deepS at hx
  split at hx
  · cases hx
    exact h.of rfl (Nat.le_refl _) h.2.1
  · cases hx
theorem G.open {s0 s : PS} {xs : List Int} (h : G src T s0 xs s) (x : List UInt8) : Part (openM T x) s (fun _ s' => G src T s0 xs s') := by
  unfold openM
  refine Part.mod ?_
  refine G.deep ?_ 1
  unfold openS
  refine G.want ?_ x
  split
  · exact h.fail 21
  · exact h
theorem G.shut {s0 s : PS} {xs : List Int} (h : G src T s0 xs s) (x : List UInt8) : Part (shutM T x) s (fun _ s' => G src T s0 xs s') := by
  unfold shutM
  exact Part.mod (G.deep (h.want x) (-1))
end
end Go.Proofs.YtgelggdgbmldiaaDoor

/-! Each part of it. -/
namespace Go.Proofs.YtgelggdgbmldiaaDoor
set_option linter.unusedVariables false
set_option linter.unusedSimpArgs false

section
variable {src : List UInt8} {T : List Tok}
def ExP (src : List UInt8) (T : List Tok) (ex : PM Int) : Prop := ∀ s, s.i < T.length → Part ex s (fun x s' => G src T s [x] s')
theorem ExP.on (hL : LnT src T) {ex : PM Int} (h : ExP src T ex) {s0 s : PS} {xs : List Int} (g : G src T s0 xs s) : Part ex s (fun x s' => G src T s0 (xs ++ [x]) s') :=
  (h s g.2.1).mono fun x s' g' => g.cat hL g'
theorem G.nd1 {s0 s : PS} {xs : List Int} (h : G src T s0 xs s) (n : Nd) (hln : n.ln = lineS src T s0) (hk : manyK n.k xs.length = true) : Part (nodeM n xs) s (fun x s' => G src T s0 [x] s') :=
  (h.node n hln hk).mono fun _ _ h => h.1

theorem inside_p (hL : LnT src T) {ex : PM Int} (hx : ExP src T ex) {a b : List UInt8} {s0 s : PS} {xs : List Int} (g : G src T s0 xs s) : Part (insideM T ex a b) s (fun x s' => G src T s0 (xs ++ [x]) s') := by
  unfold insideM
  refine Part.bind (g.open a) ?_
  intro _ s1 g1
  refine Part.bind (hx.on hL g1) ?_
  intro x s2 g2
  refine Part.bind (g2.shut b) ?_
  intro _ s3 g3
  exact Part.pure g3
theorem variable_p (hL : LnT src T) {ex : PM Int} (hx : ExP src T ex) {s : PS} (hs : s.i < T.length) : Part (variableM T ex (lineS src T s)) s (fun x s' => G src T s [x] s') := by
  unfold variableM
  refine Part.ask ?_
  refine Part.mod ?_
  refine Part.ask ?_
  have g := (G.self (src := src) hs).name
  split
  · refine Part.bind (inside_p hL hx g) ?_
    intro y s2 g2
    exact g2.nd1 _ rfl rfl
  · exact g.nd1 _ rfl rfl
theorem atom_p (hL : LnT src T) {ex : PM Int} (hx : ExP src T ex) : ExP src T (atomM src T ex) := by
  intro s hs
  have g := G.self (src := src) hs
  unfold atomM
  refine Part.ask ?_
  refine Part.ask ?_
  split
  · exact Part.mod (g.next.nd1 _ rfl rfl)
  split
  · exact Part.mod (g.next.nd1 _ rfl rfl)
  refine Part.ask ?_
  split
  · exact Part.mod (g.next.nd1 _ rfl rfl)
  refine Part.ask ?_
  split
  · refine Part.mod ?_
    refine Part.bind (inside_p hL hx g.next) ?_
    intro y s2 g2
    exact g2.nd1 _ rfl rfl
  refine Part.ask ?_
  split
  · exact inside_p hL hx g
  · exact variable_p hL hx hs
theorem factor_p (hL : LnT src T) {fac ex : PM Int} (hf : ExP src T fac) (hx : ExP src T ex) : ExP src T (factorM src T fac ex) := by
  intro s hs
  have g := G.self (src := src) hs
  unfold factorM
  refine Part.ask ?_
  refine Part.ask ?_
  refine Part.ask ?_
  split
  · refine Part.bind (g.open _) ?_
    intro _ s1 g1
    refine Part.bind (hf.on hL g1) ?_
    intro x s2 g2
    refine Part.bind (g2.deep _) ?_
    intro _ s3 g3
    exact g3.nd1 _ rfl rfl
  refine Part.ask ?_
  split
  · refine Part.bind (g.open _) ?_
    intro _ s1 g1
    refine Part.bind (hf.on hL g1) ?_
    intro x s2 g2
    refine Part.bind (g2.deep _) ?_
    intro _ s3 g3
    exact g3.nd1 _ rfl rfl
  · exact atom_p hL hx s hs
theorem chain_p (hL : LnT src T) {lv : Nat} {sub : PM Int} (hsub : ExP src T sub) {s0 : PS} : ∀ n (x : Int) s, G src T s0 [x] s → Part (chainR T lv sub (lineS src T s0) n x) s (fun x s' => G src T s0 [x] s') := by
  intro n
  induction n with
  | zero => intro x s _; exact Part.none
  | succ n ih =>
    intro x s g
    unfold chainR
    refine Part.ask ?_
    split
    · refine Part.ask ?_
      refine Part.mod ?_
      refine Part.bind (hsub.on hL g.next) ?_
      intro y s2 g2
      refine Part.bind (g2.nd1 _ rfl rfl) ?_
      intro z s3 g3
      split
      · exact Part.pure g3
      · exact ih z s3 g3
    · exact Part.pure g
theorem ex_p (hL : LnT src T) : ∀ n lv, ExP src T (exM src T n lv) := by
  intro n
  induction n with
  | zero => intro lv s hs; exact Part.none
  | succ n ih =>
    intro lv s hs
    unfold exM
    split
    · exact factor_p hL (ih 5) (ih 0) s hs
    · refine Part.ask ?_
      refine Part.bind (ih (lv + 1) s hs) ?_
      intro x s1 g1
      exact chain_p hL (ih (lv + 1)) n x s1 g1

theorem comma_p (hL : LnT src T) {ex : PM Int} (hx : ExP src T ex) {s0 : PS} : ∀ n (l : List Int) s, G src T s0 l s → Part (commaR T ex n l) s (fun l s' => G src T s0 l s') := by
  intro n
  induction n with
  | zero => intro x s _; exact Part.none
  | succ n ih =>
    intro l s g
    unfold commaR
    refine Part.ask ?_
    split
    · refine Part.mod ?_
      refine Part.bind (hx.on hL g.next) ?_
      intro y s2 g2
      exact ih _ s2 g2
    · exact Part.pure g
theorem args_p (hL : LnT src T) {ex : PM Int} (hx : ExP src T ex) {N : Nat} {s0 s : PS} (g : G src T s0 [] s) : Part (argsM T N ex) s (fun l s' => G src T s0 l s') := by
  unfold argsM
  refine Part.ask ?_
  split
  · exact Part.pure g
  · refine Part.bind (hx.on hL g) ?_
    intro y s2 g2
    exact comma_p hL hx N _ s2 g2
theorem many_any {k : Int} (h : k = 18 ∨ k = 21) (n : Nat) : manyK k n = true := by
  rcases h with rfl | rfl <;> simp [manyK]
theorem call_p (hL : LnT src T) {ex : PM Int} (hx : ExP src T ex) {N : Nat} : ExP src T (callM src T N ex) := by
  intro s hs
  have g := G.self (src := src) hs
  unfold callM
  refine Part.ask ?_
  refine Part.ask ?_
  refine Part.mod ?_
  refine Part.mod ?_
  refine Part.bind (args_p hL hx (g.name.want [40])) ?_
  intro l s1 g1
  refine Part.mod ?_
  exact (g1.want [41]).nd1 _ rfl (many_any (.inr rfl) _)
theorem right_p (hL : LnT src T) {ex : PM Int} (hx : ExP src T ex) {N : Nat} : ExP src T (rightM src T N ex) := by
  intro s hs
  have g := G.self (src := src) hs
  unfold rightM
  refine Part.ask ?_
  refine Part.ask ?_
  split
  · exact Part.mod (g.next.nd1 _ rfl rfl)
  refine Part.ask ?_
  split
  · refine Part.mod ?_
    refine Part.mod ?_
    refine Part.bind (hx.on hL (g.next.want [40])) ?_
    intro x s2 g2
    refine Part.mod ?_
    exact (g2.want [41]).nd1 _ rfl rfl
  refine Part.ask ?_
  split
  · exact call_p hL hx s hs
  · exact hx s hs
theorem ended_p {s0 s : PS} {xs : List Int} (g : G src T s0 xs s) (n : Nd) (hln : n.ln = lineS src T s0) (hk : manyK n.k xs.length = true) : Part (endedM T n xs) s (fun x s' => G src T s0 [x] s') := by
  unfold endedM
  exact Part.mod ((g.want [59]).nd1 _ hln hk)
theorem change_p (hL : LnT src T) {ex : PM Int} (hx : ExP src T ex) {N : Nat} {s : PS} (hs : s.i < T.length) : Part (changeM src T N ex (lineS src T s)) s (fun x s' => G src T s [x] s') := by
  have g := G.self (src := src) hs
  unfold changeM
  refine Part.ask ?_
  refine Part.mod ?_
  refine Part.ask ?_
  split
  · refine Part.bind (g.name.open _) ?_
    intro _ s1 g1
    refine Part.bind (hx.on hL g1) ?_
    intro y s2 g2
    refine Part.bind (g2.shut _) ?_
    intro _ s3 g3
    refine Part.mod ?_
    refine Part.bind (hx.on hL (g3.want [61])) ?_
    intro z s4 g4
    exact ended_p g4 _ rfl rfl
  · refine Part.mod ?_
    refine Part.bind ((right_p hL hx).on hL (g.name.want [61])) ?_
    intro z s4 g4
    exact ended_p g4 _ rfl rfl
theorem choice_p (hL : LnT src T) {ex bl : PM Int} (hx : ExP src T ex) (hb : ExP src T bl) {s : PS} (hs : s.i < T.length) : Part (choiceM T ex bl (lineS src T s)) s (fun x s' => G src T s [x] s') := by
  have g := G.self (src := src) hs
  unfold choiceM
  refine Part.mod ?_
  refine Part.bind (hx.on hL g.next) ?_
  intro x s1 g1
  refine Part.bind (hb.on hL g1) ?_
  intro y s2 g2
  refine Part.ask ?_
  split
  · refine Part.mod ?_
    refine Part.bind (hb.on hL g2.next) ?_
    intro z s3 g3
    exact g3.nd1 _ rfl rfl
  · exact g2.nd1 _ rfl rfl
theorem statement_p (hL : LnT src T) {ex bl : PM Int} (hx : ExP src T ex) (hb : ExP src T bl) {N : Nat} : ExP src T (statementM src T N ex bl) := by
  intro s hs
  have g := G.self (src := src) hs
  unfold statementM
  refine Part.ask ?_
  refine Part.ask ?_
  split
  · exact choice_p hL hx hb hs
  refine Part.ask ?_
  split
  · refine Part.mod ?_
    refine Part.bind (hx.on hL g.next) ?_
    intro x s1 g1
    refine Part.bind (hb.on hL g1) ?_
    intro y s2 g2
    exact g2.nd1 _ rfl rfl
  refine Part.ask ?_
  split
  · refine Part.bind (call_p hL hx s hs) ?_
    intro x s1 g1
    exact ended_p g1 _ rfl rfl
  refine Part.ask ?_
  split
  · refine Part.mod ?_
    refine Part.bind (hx.on hL g.next) ?_
    intro x s1 g1
    exact ended_p g1 _ rfl rfl
  refine Part.ask ?_
  split
  · refine Part.mod ?_
    refine Part.ask ?_
    split
    · exact ended_p g.next _ rfl rfl
    · refine Part.bind (hx.on hL g.next) ?_
      intro x s1 g1
      exact ended_p g1 _ rfl rfl
  refine Part.ask ?_
  split
  · refine Part.mod ?_
    refine Part.ask ?_
    refine Part.mod ?_
    refine Part.mod ?_
    refine Part.bind ((right_p hL hx).on hL (g.next.name.want [61])) ?_
    intro x s1 g1
    exact ended_p g1 _ rfl rfl
  · exact change_p hL hx hs
theorem stms_p (hL : LnT src T) {st : PM Int} (hst : ExP src T st) {s0 : PS} : ∀ n (l : List Int) s, G src T s0 l s → Part (stmsR T st n l) s (fun l s' => G src T s0 l s') := by
  intro n
  induction n with
  | zero => intro x s _; exact Part.none
  | succ n ih =>
    intro l s g
    unfold stmsR
    refine Part.ask ?_
    split
    · refine Part.bind (hst.on hL g) ?_
      intro y s2 g2
      exact ih _ s2 g2
    · exact Part.pure g
theorem block_p (hL : LnT src T) {st : PM Int} (hst : ExP src T st) {N : Nat} {s : PS} (hs : s.i < T.length) : Part (blockM src T N st) s (fun x s' => G src T s [x] s' ∧ (s'.nd.getD x.toNat ⟨0, 0, 0, [], []⟩).k = 18 ∧ 0 ≤ x) := by
  have g := G.self (src := src) hs
  unfold blockM
  refine Part.ask ?_
  refine Part.bind (g.open _) ?_
  intro _ s1 g1
  refine Part.bind (stms_p hL hst N [] s1 g1) ?_
  intro l s2 g2
  refine Part.bind (g2.shut _) ?_
  intro _ s3 g3
  exact g3.node _ rfl (many_any (.inl rfl) _)
theorem st_p (hL : LnT src T) {N : Nat} : ∀ n, ExP src T (stM src T N n) := by
  intro n
  induction n with
  | zero => intro s hs; exact Part.none
  | succ n ih =>
    unfold stM
    exact statement_p hL (ex_p hL N 0) (fun s hs => (block_p hL ih hs).mono fun _ _ h => h.1)

theorem kind_p {s0 s : PS} {xs : List Int} (g : G src T s0 xs s) : Part (kindM T) s (fun _ s' => G src T s0 xs s') := by
  unfold kindM
  refine Part.ask ?_
  split
  · refine Part.ask ?_
    refine Part.mod ?_
    exact Part.pure g.next
  · refine Part.mod ?_
    exact Part.pure (g.fail 20)
theorem param_p {s0 s : PS} {xs : List Int} (g : G src T s0 xs s) : Part (paramM T) s (fun _ s' => G src T s0 xs s') := by
  unfold paramM
  refine Part.ask ?_
  refine Part.mod ?_
  refine Part.bind (kind_p g.name) ?_
  intro t s1 g1
  exact Part.pure g1
theorem paramsR_p {s0 : PS} {xs : List Int} : ∀ n (l : List (List UInt8 × Int)) s, G src T s0 xs s → Part (paramsR T n l) s (fun _ s' => G src T s0 xs s') := by
  intro n
  induction n with
  | zero => intro x s _; exact Part.none
  | succ n ih =>
    intro l s g
    unfold paramsR
    refine Part.ask ?_
    split
    · refine Part.mod ?_
      refine Part.bind (param_p g.next) ?_
      intro y s2 g2
      exact ih _ s2 g2
    · exact Part.pure g
theorem params_p {N : Nat} {s0 s : PS} {xs : List Int} (g : G src T s0 xs s) : Part (paramsM T N) s (fun _ s' => G src T s0 xs s') := by
  unfold paramsM
  refine Part.ask ?_
  split
  · exact Part.pure g
  · refine Part.bind (param_p g) ?_
    intro y s2 g2
    exact paramsR_p N _ s2 g2
theorem ret_p {s0 s : PS} {xs : List Int} (g : G src T s0 xs s) : Part (retM T) s (fun _ s' => G src T s0 xs s') := by
  unfold retM
  refine Part.ask ?_
  split
  · exact Part.pure g
  · exact kind_p g

def Bod (s : PS) (x : Int) : Prop := (s.nd.getD x.toNat ⟨0, 0, 0, [], []⟩).k = 18 ∧ 0 ≤ x
theorem function_p (hL : LnT src T) {N : Nat} {s0 s : PS} {xs : List Int} (g : G src T s0 xs s) : Part (functionM src T N) s (fun f s' => G src T s0 (xs ++ [f.body]) s' ∧ Bod s' f.body) := by
  unfold functionM
  refine Part.ask ?_
  refine Part.mod ?_
  refine Part.ask ?_
  refine Part.mod ?_
  refine Part.mod ?_
  refine Part.bind (params_p ((g.want [102, 110]).name.want [40])) ?_
  intro ps s1 g1
  refine Part.mod ?_
  refine Part.bind (ret_p (g1.want [41])) ?_
  intro r s2 g2
  refine Part.bind (block_p hL (st_p hL N) g2.2.1) ?_
  rintro y s3 ⟨g3, g4, g5⟩
  exact Part.pure ⟨g2.cat hL g3, g4, g5⟩
theorem Bod.up {s s' : PS} {x : Int} (h : Bod s x) (hx : ∃ nd, s'.nd = s.nd ++ nd) : Bod s' x := by
  obtain ⟨nd, hn⟩ := hx
  refine ⟨?_, h.2⟩
  have h1 := h.1
  by_cases hl : x.toNat < s.nd.length
  · rw [hn, List.getD_eq_getElem?_getD, List.getElem?_append_left hl, ← List.getD_eq_getElem?_getD]
    exact h1
  · exfalso
    rw [List.getD_eq_getElem?_getD, List.getElem?_eq_none (by omega)] at h1
    exact absurd h1 (by decide)
theorem fns_p (hL : LnT src T) {N : Nat} {s0 : PS} : ∀ n (l : List Fnc) s, G src T s0 (l.map Fnc.body) s → (∀ f ∈ l, Bod s f.body) → Part (fnsR src T N n l) s (fun l s' => G src T s0 (l.map Fnc.body) s' ∧ ∀ f ∈ l, Bod s' f.body) := by
  intro n
  induction n with
  | zero => intro x s _ _; exact Part.none
  | succ n ih =>
    intro l s g hb
    unfold fnsR
    refine Part.ask ?_
    split
    · have hf := function_p hL (N := N) (G.self (src := src) g.2.1)
      refine Part.bind hf ?_
      rintro y s2 ⟨g2, h2⟩
      refine ih _ s2 (by rw [List.map_append]; exact g.cat hL g2) ?_
      intro f hf
      rcases List.mem_append.mp hf with h | h
      · obtain ⟨_, _, nd, hn, _⟩ := g2
        exact (hb f h).up ⟨nd, hn⟩
      · rw [List.mem_singleton.mp h]
        exact h2
    · exact Part.pure ⟨g, hb⟩
end
end Go.Proofs.YtgelggdgbmldiaaDoor

namespace Go.Proofs.YtgelggdgbmldiaaDoor
set_option linter.unusedVariables false
set_option linter.unusedSimpArgs false

theorem Fo.roots {b : Nat} {nd : List Nd} {xs : List Int} (h : Fo b nd xs) : xs.Pairwise (· < ·) ∧ ∀ x ∈ xs, ∃ j : Nat, x = ((b + j : Nat) : Int) ∧ j < nd.length := by
  induction h with
  | nil b => exact ⟨List.Pairwise.nil, fun x hx => by cases hx⟩
  | cat h1 h2 ih1 ih2 =>
    rename_i b nd nd' xs ys
    refine ⟨List.pairwise_append.mpr ⟨ih1.1, ih2.1, ?_⟩, ?_⟩
    · intro x hx y hy
      obtain ⟨j, rfl, hj⟩ := ih1.2 x hx
      obtain ⟨k, rfl, hk⟩ := ih2.2 y hy
      omega
    · intro x hx
      rw [List.length_append]
      rcases List.mem_append.mp hx with h | h
      · obtain ⟨j, e, hj⟩ := ih1.2 x h
        exact ⟨j, e, by omega⟩
      · obtain ⟨j, e, hj⟩ := ih2.2 x h
        exact ⟨nd.length + j, by rw [e]; omega, by omega⟩
  | node n h1 h2 h3 ih =>
    rename_i b nd
    refine ⟨List.pairwise_singleton _ _, ?_⟩
    intro x hx
    rw [List.mem_singleton.mp hx]
    exact ⟨nd.length, rfl, by rw [List.length_append]; exact Nat.lt_succ_self _⟩

/-- A node and what is below it. -/
def Kid (b : Nat) (nd : List Nd) (i : Nat) (n : Nd) : Prop :=
  manyK n.k n.l.length = true ∧ n.l.Pairwise (· < ·) ∧ ∀ x ∈ n.l, ∃ (j : Nat) (m : Nd), x = ((b + j : Nat) : Int) ∧ j < i ∧ nd[j]? = some m ∧ n.ln ≤ m.ln
theorem Fo.kids {b : Nat} {nd : List Nd} {xs : List Int} (h : Fo b nd xs) : ∀ i n, nd[i]? = some n → Kid b nd i n := by
  induction h with
  | nil b => intro i n hn; simp at hn
  | cat h1 h2 ih1 ih2 =>
    rename_i b nd nd' xs ys
    intro i n hn
    by_cases hi : i < nd.length
    · rw [List.getElem?_append_left hi] at hn
      obtain ⟨k1, k2, k3⟩ := ih1 i n hn
      refine ⟨k1, k2, fun x hx => ?_⟩
      obtain ⟨j, m, e, hj, hm, hl⟩ := k3 x hx
      exact ⟨j, m, e, hj, by rw [List.getElem?_append_left (by omega)]; exact hm, hl⟩
    · rw [List.getElem?_append_right (by omega)] at hn
      obtain ⟨k1, k2, k3⟩ := ih2 (i - nd.length) n hn
      refine ⟨k1, k2, fun x hx => ?_⟩
      obtain ⟨j, m, e, hj, hm, hl⟩ := k3 x hx
      exact ⟨nd.length + j, m, by rw [e]; omega, by omega, by rw [List.getElem?_append_right (by omega), Nat.add_sub_cancel_left]; exact hm, hl⟩
  | node n h1 h2 h3 ih =>
    rename_i b nd
    intro i n' hn
    by_cases hi : i < nd.length
    · rw [List.getElem?_append_left hi] at hn
      obtain ⟨k1, k2, k3⟩ := ih i n' hn
      refine ⟨k1, k2, fun x hx => ?_⟩
      obtain ⟨j, m, e, hj, hm, hl⟩ := k3 x hx
      exact ⟨j, m, e, hj, by rw [List.getElem?_append_left (by omega)]; exact hm, hl⟩
    · have hi2 : i = nd.length := by
        have := (List.getElem?_eq_some_iff.mp hn).1
        rw [List.length_append] at this
        have h1 : [n].length = 1 := rfl
        omega
      subst hi2
      rw [List.getElem?_append_right (Nat.le_refl _), Nat.sub_self] at hn
      obtain rfl : n = n' := Option.some.inj hn
      refine ⟨h3, h1.roots.1, fun x hx => ?_⟩
      obtain ⟨j, e, hj⟩ := h1.roots.2 x hx
      exact ⟨j, nd[j], e, hj, by rw [List.getElem?_append_left hj]; exact List.getElem?_eq_getElem hj, h2 _ (List.getElem_mem hj)⟩

theorem Fo.count {b : Nat} {nd : List Nd} {xs : List Int} (h : Fo b nd xs) (v : Int) : (nd.flatMap Nd.l).count v + xs.count v = if (b : Int) ≤ v ∧ v < (b : Int) + nd.length then 1 else 0 := by
  induction h with
  | nil b => rw [if_neg (by rintro ⟨h1, h2⟩; simp at h2; omega)]; rfl
  | cat h1 h2 ih1 ih2 =>
    rename_i b nd nd' xs ys
    rw [List.flatMap_append, List.count_append, List.count_append, List.length_append]
    rw [Int.natCast_add] at ih2 ⊢
    by_cases c1 : (b : Int) ≤ v ∧ v < (b : Int) + nd.length
    · rw [if_pos c1] at ih1
      rw [if_neg (by omega)] at ih2
      rw [if_pos (by omega)]
      omega
    · rw [if_neg c1] at ih1
      by_cases c2 : (b : Int) + nd.length ≤ v ∧ v < (b : Int) + nd.length + nd'.length
      · rw [if_pos c2] at ih2
        rw [if_pos (by omega)]
        omega
      · rw [if_neg c2] at ih2
        rw [if_neg (by omega)]
        omega
  | node n h1 h2 h3 ih =>
    rename_i b nd
    have hf : ([n].flatMap Nd.l) = n.l := by simp
    rw [List.flatMap_append, List.count_append, hf, ih, List.length_append]
    have h0 : [n].length = 1 := rfl
    rw [h0]
    by_cases hv : v = ((b + nd.length : Nat) : Int)
    · rw [if_neg (by omega), if_pos (by omega), hv]
      simp
    · rw [List.count_eq_zero_of_not_mem (by simpa using hv)]
      by_cases c : (b : Int) ≤ v ∧ v < (b : Int) + nd.length
      · rw [if_pos c, if_pos (by omega)]
      · rw [if_neg c, if_neg (by omega)]

theorem line_up (l : List UInt8) (a : Int) (k : Nat) : lineL l a ≤ lineL l (a + k) := by
  induction k with
  | zero => exact Nat.le_of_eq (by rw [show a + ((0 : Nat) : Int) = a by omega])
  | succ k ih =>
    rw [show a + ((k + 1 : Nat) : Int) = a + k + 1 by omega, line_next]
    omega
theorem pl_up (s : List UInt8) : ∀ (T : List Tok) (e : Nat), Pl s e T → ∀ i j, i ≤ j → j < T.length → e ≤ (T.getD i default).p ∧ (T.getD i default).p ≤ (T.getD j default).p := by
  intro T
  induction T with
  | nil => intro e h; exact absurd h (fun h => h)
  | cons t ts ih =>
    intro e h i j hij hj
    obtain ⟨h1, h2, h3, h4⟩ := h
    rcases h4 with ⟨rfl, rfl⟩ | ⟨hne, _, _, _, h8⟩
    · have : j = 0 := by simp at hj; exact hj
      subst this
      obtain rfl : i = 0 := by omega
      exact ⟨h1, Nat.le_refl _⟩
    · cases j with
      | zero =>
        obtain rfl : i = 0 := by omega
        exact ⟨h1, Nat.le_refl _⟩
      | succ j =>
        rw [List.length_cons] at hj
        cases i with
        | zero =>
          have := ih _ h8 0 j (Nat.zero_le _) (by omega)
          exact ⟨h1, by show t.p ≤ (ts.getD j default).p; omega⟩
        | succ i =>
          have := ih _ h8 i j (by omega) (by omega)
          exact ⟨by show e ≤ (ts.getD i default).p; omega, this.2⟩
theorem lexL_LnT (src : List UInt8) (h : (lexL src 0).2 = none) : LnT src (lexL src 0).1 := by
  have hp := lexL_places src src 0 0 rfl (Nat.zero_le _) (Nat.le_refl _) (by simpa using gap_nil) h
  refine ⟨List.length_pos_iff.mpr (lexL_ne src 0 h), ?_⟩
  intro i j hij hj
  obtain ⟨h1, h2⟩ := pl_up src _ 0 hp i j hij hj
  have h3 := line_up src ((((lexL src 0).1.getD i default).p : Nat) : Int) (((lexL src 0).1.getD j default).p - ((lexL src 0).1.getD i default).p)
  rwa [show ((((lexL src 0).1.getD i default).p : Nat) : Int) + (((((lexL src 0).1.getD j default).p - ((lexL src 0).1.getD i default).p : Nat)) : Int) = ((((lexL src 0).1.getD j default).p : Nat) : Int) by omega] at h3

/-- What ParseBelow asks of a tree. -/
structure BelowT (nd : List Nd) (fs : List Fnc) : Prop where
  kids : ∀ i n, nd[i]? = some n → Kid 0 nd i n
  bods : ∀ f ∈ fs, ∃ (j : Nat) (m : Nd), f.body = (j : Int) ∧ nd[j]? = some m ∧ m.k = 18
  ones : ∀ j : Nat, j < nd.length → (nd.flatMap Nd.l).count (j : Int) + (fs.map Fnc.body).count (j : Int) = 1
  many : nd.length ≤ 300
  fns : fs.length ≤ 6

theorem belowT_of (N : Nat) (src : List UInt8) (nd : List Nd) (fs : List Fnc) (h : allP N src = some (.inr (nd, fs))) : BelowT nd fs := by
  unfold allP at h
  split at h
  · cases h
  split at h
  · cases h
  rename_i hn
  have hL := lexL_LnT src hn
  cases hr : fnsR src (lexL src 0).1 N N [] ⟨0, 0, 0, [], 0⟩ with
  | none => rw [hr] at h; cases h
  | some r =>
    rw [hr] at h
    obtain ⟨l, s⟩ := r
    have h1 : treeP l s = .inr (nd, fs) := Option.some.inj h
    obtain ⟨g, hb⟩ := fns_p hL (N := N) (s0 := ⟨0, 0, 0, [], 0⟩) N [] ⟨0, 0, 0, [], 0⟩ (G.self hL.1) (fun f hf => by cases hf) l s hr
    unfold treeP at h1
    split at h1
    · split at h1
      · cases h1
      · rename_i hc
        cases h1
        simp only [Bool.or_eq_true, decide_eq_true_eq, not_or] at hc
        obtain ⟨_, _, nd', hnd, hF, _⟩ := g
        have hnd : s.nd = nd' := hnd
        subst hnd
        have hF : Fo 0 s.nd (fs.map Fnc.body) := hF
        refine ⟨hF.kids, ?_, ?_, by omega, by omega⟩
        · intro f hf
          obtain ⟨b1, b2⟩ := hb f hf
          obtain ⟨j, e, hj⟩ := hF.roots.2 f.body (List.mem_map_of_mem hf)
          rw [Nat.zero_add] at e
          refine ⟨j, s.nd[j], e, List.getElem?_eq_getElem hj, ?_⟩
          rw [e, Int.toNat_natCast, List.getD_eq_getElem?_getD, List.getElem?_eq_getElem hj] at b1
          exact b1
        · intro j hj
          have := hF.count (j : Int)
          rw [if_pos (by omega)] at this
          exact this
    · cases h1
end Go.Proofs.YtgelggdgbmldiaaDoor

namespace Go.Proofs.YtgelggdgbmldiaaDoor
open Go Go.RowKit Go.Shelf
set_option linter.unusedVariables false
set_option linter.unusedSimpArgs false

theorem results_cell1 {fn : Func} {p : Tmp} {ty : TypeId} (h : fn.results = #[.cell p ty]) (tmps : Array Value) (P : Program) (w : World) :
    (results fn tmps).run P w = ((asAddr (tmps.getD p undef)).run P w).andThen fun a w₁ => (loadVar ty a).run P w₁ := by
  simp only [results, h]
  simp [Sem.run_bind, Result.andThen]

theorem tok_field0 (k : Int) (x : ByteArray) (p : Int) (w : World) : Sem.run Tryd.prog (Instr.field 54 (.agg #[.int .i64 k, .string x, .int .i64 p]) 0) w = .ok (.int .i64 k) w := by kernel_rfl
theorem tok_field1 (k : Int) (x : ByteArray) (p : Int) (w : World) : Sem.run Tryd.prog (Instr.field 54 (.agg #[.int .i64 k, .string x, .int .i64 p]) 1) w = .ok (.string x) w := by kernel_rfl
theorem tok_field2 (k : Int) (x : ByteArray) (p : Int) (w : World) : Sem.run Tryd.prog (Instr.field 54 (.agg #[.int .i64 k, .string x, .int .i64 p]) 2) w = .ok (.int .i64 p) w := by kernel_rfl
/-- The token that is next, as a value. -/
def tokV (T : List Tok) (s : PS) : Value := .agg #[.int .i64 ((tokA T s).k : Int), .string (ofL (tokA T s).x), .int .i64 ((tokA T s).p : Int)]
set_option maxRecDepth 100000 in
set_option maxHeartbeats 8000000 in
theorem now_any {P : Nat} {src : ByteArray} {T : List Tok} {R : Nat → Prop} {s : PS} {w : World} (h : Par w P src T R s) :
    Calls Tryd.prog 25 #[.pointer (some ⟨P, 0, none⟩)] w fun e w' => e = .returned (tokV T s) ∧ Keeps (fun _ => False) w w' := by
  obtain ⟨A, cT, v, L, h⟩ := h
  have c1 := h.c1
  have c2 := h.c2
  have hi := h.hi
  have hle := h.ok.le
  obtain ⟨b, off, rfl, hc⟩ := h.tok (by omega)
  obtain ⟨t0, t1, t2⟩ := hc s.i hi
  obtain ⟨i, hI⟩ : ∃ i, i = s.i := ⟨_, rfl⟩
  obtain ⟨n, hn⟩ : ∃ n, n = T.length := ⟨_, rfl⟩
  have hv : tokV T s = .agg #[.int .i64 ((T.getD s.i default).k : Int), .string (ofL (T.getD s.i default).x), .int .i64 ((T.getD s.i default).p : Int)] := rfl
  rw [hv, ← hI]
  rw [← hI] at c2 hi t0 t1 t2
  rw [← hn] at c1 hi hle
  generalize ((T.getD i default).k : Int) = tk at t0 ⊢
  generalize ofL (T.getD i default).x = tx at t1 ⊢
  generalize ((T.getD i default).p : Int) = tp at t2 ⊢
  have h0 : (0 : Int) ≤ (i : Int) := by omega
  have h1 : (i : Int) < (n : Int) := by omega
  have hP := h.lo
  have hb := cell_ltk t0
  clear hv h hc hI hn
  go_enter Tryd.func25, Tryd.ntmps25
  go_wp2_with fail
  have k1 := Keeps.one w (.cells #[.int .i64 0, .string { data := #[] }, .int .i64 0] 54)
  have z := Loc.new (w := w) (R := fun _ => False) (fun h => h) [.int .i64 0, .string { data := #[] }, .int .i64 0] 54
  obtain ⟨X, hX⟩ : ∃ X, X = w.heap.size := ⟨_, rfl⟩
  rw [← hX] at z ⊢
  obtain ⟨w1, hw1⟩ : ∃ w1, w1 = w.alloc (.cells #[.int .i64 0, .string { data := #[] }, .int .i64 0] 54) := ⟨_, rfl⟩
  have z : Loc w1 (fun _ => False) X [.int .i64 0, .string { data := #[] }, .int .i64 0] := by rw [hw1]; exact z
  rw [← hw1] at k1 ⊢
  have hXP : P ≠ X := by omega
  have hXb : b ≠ X := by omega
  have z0 := z.cells 0 _ rfl
  have z1 := z.cells 1 _ rfl
  have z2 := z.cells 2 _ rfl
  have y0 := z.fz 0
  have y1 := z.fz 1
  have y2 := z.fz 2
  have c1 := (k1.cell hP (fun h => h)).trans c1
  have c2 := (k1.cell hP (fun h => h)).trans c2
  have t0 := (k1.cell hb (fun h => h)).trans t0
  have t1 := (k1.cell hb (fun h => h)).trans t1
  have t2 := (k1.cell hb (fun h => h)).trans t2
  have hfin : Hid (∀ v0 v1 v2 : Value, Keeps (fun _ => False) w (((w1.setCell ⟨X, 0, none⟩ v0).setCell ⟨X, 1, none⟩ v1).setCell ⟨X, 2, none⟩ v2).drew) := Lib.hid fun v0 v1 v2 => by
    have hx : ∀ k : Nat, (⟨X, k, none⟩ : Addr).block < w.heap.size → False := fun k (h : X < w.heap.size) => by omega
    exact (((k1.setCell (p := ⟨X, 0, none⟩) (fun h => hx 0 h) v0).setCell (p := ⟨X, 1, none⟩) (fun h => hx 1 h) v1).setCell (p := ⟨X, 2, none⟩) (fun h => hx 2 h) v2).drew
  clear z k1 hw1 hX hP hb
  go_region
  all_goals (go_wp2; (try simp only [Exit.inBlock, Exit.then]); refine bodyPost_ret (v := .agg #[.int .i64 tk, .string tx, .int .i64 tp]) ?_ rfl ?_)
  all_goals first | (rw [results_cell1 rfl]; go_simp; done) | skip
  all_goals exact ⟨rfl, hfin.out _ _ _⟩
end Go.Proofs.YtgelggdgbmldiaaDoor

namespace Go.Proofs.YtgelggdgbmldiaaDoor
open Go Go.RowKit Go.Shelf
set_option linter.unusedVariables false
set_option linter.unusedSimpArgs false
set_option maxRecDepth 100000 in
set_option maxHeartbeats 8000000 in
theorem pline_any {P : Nat} {src : ByteArray} {T : List Tok} {R : Nat → Prop} {s : PS} {w : World} (hsz : src.size ≤ 1000) (h : Par w P src T R s) :
    Calls Tryd.prog 48 #[.pointer (some ⟨P, 0, none⟩)] w fun e w' => e = .returned (.int .i64 (lineS src.data.toList T s)) ∧ Keeps (fun _ => False) w w' := by
  have H := Lib.hid h
  obtain ⟨A, cT, v, L, h⟩ := h
  have c0 := h.c0
  have hP := h.lo
  clear h
  have NC : Hid (∀ w1, Keeps (fun _ => False) w w1 → Calls Tryd.prog 25 #[.pointer (some ⟨P, 0, none⟩)] w1 fun e w' => e = .returned (.agg #[.int .i64 ((tokA T s).k : Int), .string (ofL (tokA T s).x), .int .i64 ((tokA T s).p : Int)]) ∧ Keeps (fun _ => False) w1 w') := Lib.hid fun w1 k => now_any (H.out.keep k)
  have LC : Hid (∀ w1, Calls Tryd.prog 78 #[.string src, .int .i64 ((tokA T s).p : Int)] w1 fun e w' => e = .returned (.int .i64 (lineS src.data.toList T s)) ∧ w' = w1) := Lib.hid fun w1 => line_any src hsz _ w1
  generalize lineS src.data.toList T s = ln at LC ⊢
  generalize tokA T s = tk at NC LC
  have F2 : ∀ w, Sem.run Tryd.prog (Instr.field 54 (.agg #[.int .i64 (tk.k : Int), .string (ofL tk.x), .int .i64 (tk.p : Int)]) 2) w = .ok (.int .i64 (tk.p : Int)) w := fun w => tok_field2 _ _ _ w
  go_enter Tryd.func48, Tryd.ntmps48
  go_wp2_with fail
  refine wp_region_held_drew (S := fun w' => w'.cell? ⟨P, 0, none⟩ = some (.string src) ∧ Keeps (fun _ => False) w w') (by kernel_rfl) (⟨c0, (Keeps.refl _ _).drew⟩) (fun hHeld => ?_)
  clear c0
  refine wpAnyH_take (i := 0) (v := ?_) rfl (by kernel_rfl) (by kernel_rfl) (by kernel_rfl) (fun _ _ _ h => h) (Or.inl ⟨by rfl, ?_⟩) (by assumption) ?_
  rotate_left
  · (intro w' hSw; (try dsimp only at hSw); obtain ⟨q0, sk⟩ := hSw; go_simp; (try (with_reducible rfl)))
  simp only [Act.put, List.getElem_toArray, List.getElem_cons_succ, List.getElem_cons_zero, List.setIfInBounds_toArray, List.set_cons_succ, List.set_cons_zero]
  refine wpAnyH_take (i := 1) (v := ?_) rfl (by kernel_rfl) (by kernel_rfl) (by kernel_rfl) (fun _ _ _ h => h) (Or.inl ⟨by rfl, ?_⟩) (by assumption) ?_
  rotate_left
  · (intro w' hSw; (try dsimp only at hSw); obtain ⟨q0, sk⟩ := hSw; go_simp; (try (with_reducible rfl)))
  simp only [Act.put, List.getElem_toArray, List.getElem_cons_succ, List.getElem_cons_zero, List.setIfInBounds_toArray, List.set_cons_succ, List.set_cons_zero]
  refine wpAnyH_take (i := 2) (v := ?_) rfl (by kernel_rfl) (by kernel_rfl) (by kernel_rfl) (fun _ _ _ h => h) (Or.inl ⟨by rfl, ?_⟩) (by assumption) ?_
  rotate_left
  · (intro w' hSw; (try dsimp only at hSw); obtain ⟨q0, sk⟩ := hSw; go_simp; (try (with_reducible rfl)))
  simp only [Act.put, List.getElem_toArray, List.getElem_cons_succ, List.getElem_cons_zero, List.setIfInBounds_toArray, List.set_cons_succ, List.set_cons_zero]
  refine wpAnyH_take (i := 3) (v := ?_) rfl (by kernel_rfl) (by kernel_rfl) (by kernel_rfl) (fun _ _ _ h => h) (Or.inl ⟨by rfl, ?_⟩) (by assumption) ?_
  rotate_left
  · (intro w' hSw; (try dsimp only at hSw); obtain ⟨q0, sk⟩ := hSw; go_simp; (try (with_reducible rfl)))
  simp only [Act.put, List.getElem_toArray, List.getElem_cons_succ, List.getElem_cons_zero, List.setIfInBounds_toArray, List.set_cons_succ, List.set_cons_zero]
  refine wpAnyH_take (i := 4) (v := ?_) rfl (by kernel_rfl) (by kernel_rfl) (by kernel_rfl) (fun _ _ _ h => h) (Or.inl ⟨by rfl, ?_⟩) (by assumption) ?_
  rotate_left
  · (intro w' hSw; (try dsimp only at hSw); obtain ⟨q0, sk⟩ := hSw; go_simp; (try (with_reducible rfl)))
  simp only [Act.put, List.getElem_toArray, List.getElem_cons_succ, List.getElem_cons_zero, List.setIfInBounds_toArray, List.set_cons_succ, List.set_cons_zero]
  refine wpAnyH_ready (rs := [5]) (by kernel_rfl) (by simp) ?_
  refine AllReadyH.cons rfl (fun K hK => ?_) AllReadyH.nil
  go_simp
  (go_at_call 25; refine (NC.out _ hHeld.2).mono ?_; rintro e w3 ⟨rfl, k3⟩; (try go_simp))
  refine hK.out _ _ ⟨(k3.cell (cell_ltk hHeld.1) (fun h => h)).trans hHeld.1, hHeld.2.trans k3 (fun _ _ h => h)⟩ (fun hHeld => ?_)
  clear hK K k3
  refine wpAnyH_take (i := 6) (v := ?_) rfl (by kernel_rfl) (by kernel_rfl) (by kernel_rfl) (fun _ _ _ h => h) (Or.inl ⟨by rfl, ?_⟩) (by assumption) ?_
  rotate_left
  · (intro w' hSw; (try dsimp only at hSw); obtain ⟨q0, sk⟩ := hSw; go_simp; (try (with_reducible rfl)))
  simp only [Act.put, List.getElem_toArray, List.getElem_cons_succ, List.getElem_cons_zero, List.setIfInBounds_toArray, List.set_cons_succ, List.set_cons_zero]
  refine wpAnyH_ready (rs := [7]) (by kernel_rfl) (by simp) ?_
  refine AllReadyH.cons rfl (fun K hK => ?_) AllReadyH.nil
  go_simp
  (go_at_call 78; refine (LC.out _).mono ?_; rintro e w4 ⟨rfl, rfl⟩; (try go_simp))
  refine hK.out _ _ hHeld (fun hHeld => ?_)
  clear hK K
  refine wpAnyH_take (i := 8) (v := ?_) rfl (by kernel_rfl) (by kernel_rfl) (by kernel_rfl) (fun _ _ _ h => h) (Or.inl ⟨by rfl, ?_⟩) (by assumption) ?_
  rotate_left
  · (intro w' hSw; (try dsimp only at hSw); obtain ⟨q0, sk⟩ := hSw; go_simp; (try (with_reducible rfl)))
  simp only [Act.put, List.getElem_toArray, List.getElem_cons_succ, List.getElem_cons_zero, List.setIfInBounds_toArray, List.set_cons_succ, List.set_cons_zero]
  refine wpAnyH_done (by kernel_rfl) ?_ _
  have hk := hHeld.2
  clear hHeld
  go_wp2
  go_ret
  exact ⟨rfl, hk⟩
end Go.Proofs.YtgelggdgbmldiaaDoor
