/-
  Layer 2: the document's reader tells what the program's parser tells (data). Written by an AI agent.
-/
import Derived.Lib.Bytealg
import Derived.Test.YtgelggdgbmldiaaDoorMcaa
import Derived.Test.YtgelggdgbmldiaaDoorMcac
import Derived.Test.YtgelggdgbmldiaaDoorMcas
namespace Go.Proofs.YtgelggdgbmldiaaDoor
set_option linter.unusedVariables false
set_option linter.unusedSimpArgs false
section
variable (T : List Tok)
/-- The parser's state, and the reader's: the same, or both have the same error. -/
def Sm (s s' : PS) : Prop := s'.i < T.length ∧ s'.dp = s.dp ∧ ((s.er = 0 ∧ s' = s) ∨ (s.er ≠ 0 ∧ s'.er = s.er ∧ s'.pl = s.pl ∧ s.i = T.length - 1 ∧ s'.nd.length ≤ s.nd.length))
def SimAt {α : Type} (m m' : PM α) (s s' : PS) : Prop := ∀ r s1, m s = some (r, s1) → ∃ r' s1', m' s' = some (r', s1') ∧ Sm T s1 s1' ∧ (s1.er = 0 → s.er = 0 ∧ r' = r)
/-- Signs are no words. -/
def SgT : Prop := ∀ i, (T.getD i default).k = 5 → (T.getD i default).x ∉ [[108, 101, 116], [112, 114, 105, 110, 116], [119, 104, 105, 108, 101], [105, 102], [114, 101, 116, 117, 114, 110], [105, 110, 116], [98, 111, 111, 108], [116, 101, 120, 116], [108, 105, 115, 116]]
variable {T}
theorem SimAt.bind {α β : Type} {m m' : PM α} {f f' : α → PM β} {s s' : PS} (h : SimAt T m m' s s') (k : ∀ a a' t t', Sm T t t' → (t.er = 0 → s.er = 0 ∧ a' = a) → SimAt T (f a) (f' a') t t') : SimAt T (m >>= f) (m' >>= f') s s' := by
  intro r s1 e
  obtain ⟨a, t, e1, e2⟩ := bind_out e
  obtain ⟨a', t', h1, h2, h3⟩ := h a t e1
  obtain ⟨r', s1', h4, h5, h6⟩ := k a a' t t' h2 h3 r s1 e2
  exact ⟨r', s1', (bind_in h1).trans h4, h5, fun he => ⟨(h3 (h6 he).1).1, (h6 he).2⟩⟩
theorem SimAt.ret {α : Type} {a a' : α} {s s' : PS} (h : Sm T s s') (k : s.er = 0 → a' = a) : SimAt T (pure a) (pure a') s s' := by
  intro r s1 e
  have e := pure_out e
  injection e with e1 e2
  subst e1; subst e2
  exact ⟨a', s', rfl, h, fun he => ⟨he, k he⟩⟩
theorem SimAt.askL {α β : Type} {g : PS → α} {f : α → PM β} {m' : PM β} {s s' : PS} (h : SimAt T (f (g s)) m' s s') : SimAt T (ask g >>= f) m' s s' := h
theorem SimAt.askR {α β : Type} {g : PS → α} {f : α → PM β} {m : PM β} {s s' : PS} (h : SimAt T m (f (g s')) s s') : SimAt T m (ask g >>= f) s s' := h
theorem SimAt.asks {α β : Type} {g g' : PS → α} {f f' : α → PM β} {s s' : PS} (e : g' s' = g s) (h : SimAt T (f (g s)) (f' (g s)) s s') : SimAt T (ask g >>= f) (ask g' >>= f') s s' := by
  refine SimAt.askL (SimAt.askR ?_)
  rw [e]
  exact h
/-- Behind an error there is none no more. -/
def Le (s t : PS) : Prop := t.er = 0 → s.er = 0
theorem Le.trans {a b c : PS} (h : Le a b) (k : Le b c) : Le a c := fun e => h (k e)
theorem SimAt.le {α : Type} {m m' : PM α} {s s' t : PS} (hl : Le t s) (h : SimAt T m m' s s') : ∀ r s1, m s = some (r, s1) → ∃ r' s1', m' s' = some (r', s1') ∧ Sm T s1 s1' ∧ (s1.er = 0 → t.er = 0 ∧ r' = r) := fun r s1 e => by
  obtain ⟨r', s1', h1, h2, h3⟩ := h r s1 e
  exact ⟨r', s1', h1, h2, fun he => ⟨hl (h3 he).1, (h3 he).2⟩⟩
theorem SimAt.both {β : Type} {g g' : PS → PS} {f f' : Unit → PM β} {s s' : PS} (hl : Le s (g s)) (h : SimAt T (f ()) (f' ()) (g s) (g' s')) : SimAt T (mod g >>= f) (mod g' >>= f') s s' := fun r s1 e => h.le hl r s1 e
theorem le_next (s : PS) : Le s (nextS T s) := by unfold Le nextS; split <;> exact id
theorem le_fail {e : Nat} (he : e ≠ 0) (s : PS) : Le s (failS T e s) := by
  unfold Le failS
  split
  · intro h; exact absurd h he
  · exact id
theorem le_want (x : List UInt8) (s : PS) : Le s (wantS T x s) := by
  unfold wantS
  split
  · exact le_next s
  · exact le_fail (by decide) s
theorem le_name (s : PS) : Le s (nameS T s) := by
  unfold nameS
  split
  · exact le_next s
  · exact le_fail (by decide) s
theorem SimAt.next {β : Type} {f f' : Unit → PM β} {s s' : PS} (hi : s'.i + 1 < T.length) (h : SimAt T (f ()) (f' ()) (nextS T s) (stepR s')) : SimAt T (mod (nextS T) >>= f) (goR T >>= f') s s' := by
  intro r s1 e
  obtain ⟨r', s1', h1, h2, h3⟩ := h.le (le_next s) r s1 e
  exact ⟨r', s1', (bind_in (m := goR T) (show goR T s' = some ((), stepR s') from if_pos hi)).trans h1, h2, h3⟩
theorem Sm.dp {s s' : PS} (hs : Sm T s s') (d : Int) : Sm T { s with dp := s.dp + d } { s' with dp := s'.dp + d } := by
  obtain ⟨h1, h2, h3⟩ := hs
  refine ⟨h1, by show s'.dp + d = s.dp + d; rw [h2], ?_⟩
  rcases h3 with ⟨a, rfl⟩ | h3
  · exact .inl ⟨a, rfl⟩
  · exact .inr h3
theorem deep_some {d : Int} {s s1 : PS} {u : Unit} (e : deepS d s = some (u, s1)) : (-1000000 < s.dp ∧ s.dp < 1000000) ∧ s1 = { s with dp := s.dp + d } := by
  unfold deepS at e
  split at e
  · rename_i hl
    injection e with e
    injection e with e3 e4
    exact ⟨hl, e4.symm⟩
  · cases e
theorem SimAt.deep {β : Type} {f f' : Unit → PM β} {s s' : PS} (d : Int) (hs : Sm T s s') (h : ∀ t t', Sm T t t' → (t.er = 0 → s.er = 0) → SimAt T (f ()) (f' ()) t t') : SimAt T (deepS d >>= f) (deepS d >>= f') s s' := by
  intro r s1 e
  obtain ⟨a, t, e1, e2⟩ := bind_out e
  obtain ⟨hl, rfl⟩ := deep_some e1
  obtain ⟨r', s1', h1, h2, h3⟩ := h _ _ (hs.dp d) id r s1 e2
  exact ⟨r', s1', (bind_in (m := deepS d) (show deepS d s' = some ((), { s' with dp := s'.dp + d }) from if_pos (by rw [hs.2.1]; exact hl))).trans h1, h2, h3⟩
theorem node_some {n : Nd} {l : List Int} {s s1 : PS} {r : Int} (e : nodeM n l s = some (r, s1)) : s.nd.length < 100000 ∧ r = (s.nd.length : Int) ∧ s1 = { s with nd := s.nd ++ [{ n with l := l }] } := by
  unfold nodeM at e
  split at e
  · rename_i hl
    injection e with e
    injection e with e1 e2
    exact ⟨hl, e1.symm, e2.symm⟩
  · cases e
theorem SimAt.node {n n' : Nd} {l l' : List Int} {s s' : PS} (hs : Sm T s s') (hn : s.er = 0 → n' = n ∧ l' = l) : SimAt T (nodeM n l) (nodeM n' l') s s' := by
  intro r s1 e
  obtain ⟨hl, rfl, rfl⟩ := node_some e
  obtain ⟨h1, h2, ⟨h3, rfl⟩ | h3⟩ := hs
  · obtain ⟨rfl, rfl⟩ := hn h3
    exact ⟨_, _, if_pos hl, ⟨h1, rfl, .inl ⟨h3, rfl⟩⟩, fun _ => ⟨h3, rfl⟩⟩
  · obtain ⟨h4, h5, h6, h7, h8⟩ := h3
    refine ⟨_, _, if_pos (by omega), ⟨h1, h2, .inr ⟨h4, h5, h6, h7, ?_⟩⟩, fun h => absurd h h4⟩
    show (s'.nd ++ [_]).length ≤ (s.nd ++ [_]).length
    rw [List.length_append, List.length_append]
    exact Nat.add_le_add_right h8 1
/-- The parser puts a node behind an error, the reader none. -/
theorem SimAt.nodeL {n : Nd} {l : List Int} {a : Int} {s s' : PS} (hs : Sm T s s') (he : s.er ≠ 0) : SimAt T (nodeM n l) (pure a) s s' := by
  intro r s1 e
  obtain ⟨hl, rfl, rfl⟩ := node_some e
  obtain ⟨h1, h2, ⟨h3, rfl⟩ | h3⟩ := hs
  · exact absurd h3 he
  · obtain ⟨h4, h5, h6, h7, h8⟩ := h3
    refine ⟨_, _, rfl, ⟨h1, h2, .inr ⟨h4, h5, h6, h7, ?_⟩⟩, fun h => absurd h h4⟩
    show s'.nd.length ≤ (s.nd ++ [_]).length
    rw [List.length_append]
    exact Nat.le_trans h8 (Nat.le_add_right _ _)
theorem Sm.refl {s : PS} (hi : s.i < T.length) (he : s.er = 0) : Sm T s s := ⟨hi, rfl, .inl ⟨he, rfl⟩⟩
theorem Sm.same {s s' : PS} (h : Sm T s s') (he : s.er = 0) : s' = s := by
  obtain ⟨_, _, ⟨_, h⟩ | h⟩ := h
  · exact h
  · exact absurd he h.1
theorem Sm.er {s s' : PS} (h : Sm T s s') : s'.er = s.er := by
  obtain ⟨_, _, ⟨_, rfl⟩ | h⟩ := h
  · rfl
  · exact h.2.1
theorem Sm.k0 {s s' : PS} (hT : EndT T) (h : Sm T s s') (he : s.er ≠ 0) : (tokA T s).k = 0 := by
  obtain ⟨h1, _, ⟨h2, rfl⟩ | h⟩ := h
  · exact absurd h2 he
  · unfold tokA
    rw [h.2.2.2.1]
    exact hT.2.2
theorem isS_end {ts : List (List UInt8)} {s : PS} (h : (tokA T s).k = 0) : isS T ts s = false := by
  cases hb : isS T ts s with
  | false => rfl
  | true => exact absurd h (isS_k hb)
theorem Sm.is {s s' : PS} (hT : EndT T) (h : Sm T s s') (x : List UInt8) : isR T x s' = isS T [x] s := by
  by_cases he : s.er = 0
  · rw [h.same he]
    unfold isR isS
    rw [decide_eq_true he, Bool.true_and]
    congr 1
    simp [List.contains_cons]
  · rw [isS_end (h.k0 hT he)]
    unfold isR
    rw [h.er, decide_eq_false he, Bool.false_and]
theorem Sm.calls {s s' : PS} (hT : EndT T) (h : Sm T s s') : callsR T s' = callsS T s := by
  by_cases he : s.er = 0
  · rw [h.same he]
    unfold callsR callsS kindR
    rw [decide_eq_true he, Bool.true_and]
  · unfold callsR kindR callsS
    rw [h.er, decide_eq_false he, Bool.false_and, Bool.false_and, h.k0 hT he]
    rfl
theorem Sm.nameX {s s' : PS} (hT : EndT T) (h : Sm T s s') : wnameX T s' = nameX T s := by
  by_cases he : s.er = 0
  · rw [h.same he]
    unfold wnameX Go.Proofs.YtgelggdgbmldiaaDoor.nameX kindR
    rw [decide_eq_true he, Bool.true_and]
    by_cases hk : (tokA T s).k = 3
    · rw [if_pos (decide_eq_true hk), if_pos hk]
    · rw [if_neg (by rw [decide_eq_false hk]; decide), if_neg hk]
  · unfold wnameX Go.Proofs.YtgelggdgbmldiaaDoor.nameX kindR
    rw [h.er, decide_eq_false he, Bool.false_and, h.k0 hT he]
    rfl
theorem next_step (hT : EndT T) {s : PS} (hi : s.i < T.length) (hk : (tokA T s).k ≠ 0) : nextS T s = stepR s ∧ s.i + 1 < T.length := by
  have h1 : s.i ≠ T.length - 1 := fun e => hk (by unfold tokA; rw [e]; exact hT.2.2)
  have h2 : s.i < T.length - 1 := by omega
  exact ⟨if_pos h2, by omega⟩
theorem Sm.step {s s' : PS} (hT : EndT T) (h : Sm T s s') (hk : (tokA T s).k ≠ 0) : s'.i + 1 < T.length ∧ Sm T (nextS T s) (stepR s') := by
  by_cases he : s.er = 0
  · have e := h.same he
    subst e
    obtain ⟨e, hi⟩ := next_step hT h.1 hk
    rw [e]
    exact ⟨hi, Sm.refl hi he⟩
  · exact absurd (h.k0 hT he) hk
theorem Sm.fail {s s' : PS} (hT : EndT T) (h : Sm T s s') {e : Nat} (hx : e ≠ 0) : Sm T (failS T e s) (failR T e s') := by
  by_cases he : s.er = 0
  · have e1 := h.same he
    subst e1
    unfold failS failR
    rw [if_pos he, if_pos he]
    exact ⟨h.1, rfl, .inr ⟨hx, rfl, rfl, rfl, Nat.le_refl _⟩⟩
  · unfold failS failR
    rw [if_neg he, if_neg (by rw [h.er]; exact he)]
    exact h
theorem Sm.want {s s' : PS} (hT : EndT T) (h : Sm T s s') (x : List UInt8) : Sm T (wantS T x s) (mustR T x s') := by
  unfold wantS mustR
  rw [h.is hT]
  by_cases hb : isS T [x] s = true
  · rw [if_pos hb, if_pos hb]
    exact (h.step hT (isS_k hb)).2
  · rw [if_neg hb, if_neg hb]
    exact h.fail hT (by decide)
theorem Sm.name {s s' : PS} (hT : EndT T) (h : Sm T s s') : Sm T (nameS T s) (wnameR T s') := by
  unfold nameS wnameR kindR
  by_cases hk : (tokA T s).k = 3
  · have he : s.er = 0 := by
      by_cases he : s.er = 0
      · exact he
      · have := h.k0 hT he; omega
    rw [if_pos hk, h.same he, if_pos (by rw [decide_eq_true he, decide_eq_true hk]; rfl)]
    have := (h.step hT (by omega)).2
    rw [h.same he] at this
    exact this
  · rw [if_neg hk]
    by_cases he : s.er = 0
    · rw [if_neg (by rw [h.same he, decide_eq_false hk, Bool.and_false]; decide)]
      exact h.fail hT (by decide)
    · rw [if_neg (by rw [h.er, decide_eq_false he, Bool.false_and]; decide)]
      exact h.fail hT (by decide)
/-- Behind an error the parser's want, name and the like change nothing. -/
theorem want_end {s : PS} (he : s.er ≠ 0) (hk : (tokA T s).k = 0) (x : List UInt8) : wantS T x s = s := by
  unfold wantS failS
  rw [isS_end hk, if_neg (by decide), if_neg he]
theorem name_end {s : PS} (he : s.er ≠ 0) (hk : (tokA T s).k = 0) : nameS T s = s := by
  unfold nameS failS
  rw [hk, if_neg (by decide), if_neg he]
end
end Go.Proofs.YtgelggdgbmldiaaDoor
