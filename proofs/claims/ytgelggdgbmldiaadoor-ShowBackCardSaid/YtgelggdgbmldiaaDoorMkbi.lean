/-
  Layer 2: the document's reader tells what the program's parser tells (data). Written by an AI agent.
  Layer 2: the document's reader tells what the program's parser tells (data): expressions. Written by an AI agent.
-/
import Derived.Test.YtgelggdgbmldiaaDoorMkav
namespace Go.Proofs.YtgelggdgbmldiaaDoor
set_option linter.unusedVariables false
set_option linter.unusedSimpArgs false
section
variable (T : List Tok)
/-- The parser's state, and the reader's: the same, or both have the same error. -/
def Sm (s s' : PS) : Prop := s'.i < T.length ∧ s'.dp = s.dp ∧ ((s.er = 0 ∧ s' = s) ∨ (s.er ≠ 0 ∧ s'.er = s.er ∧ s'.pl = s.pl ∧ s.i = T.length - 1 ∧ s'.nd.length ≤ s.nd.length))
def SimAt {α : Type} (m m' : PM α) (s s' : PS) : Prop := ∀ r s1, m s = some (r, s1) → ∃ r' s1', m' s' = some (r', s1') ∧ Sm T s1 s1' ∧ (s1.er = 0 → s.er = 0 ∧ r' = r)
/-- Signs are no words. -/
def SgT : Prop := ∀ i, (T.getD i default).k = 5 → (T.getD i default).x ∉ [[108, 101, 116], [112, 114, 105, 110, 116], [119, 104, 105, 108, 101], [105, 102], [114, 101, 116, 117, 114, 110], [105, 110, 116], [98, 111, 111, 108], [116, 101, 120, 116], [108, 105, 115, 116]]
variable {T}
theorem SimAt.bind {α β : Type} {m m' : PM α} {f f' : α → PM β} {s s' : PS} (h : SimAt T m m' s s') (k : ∀ a a' t t', Sm T t t' → (t.er = 0 → s.er = 0 ∧ a' = a) → SimAt T (f a) (f' a') t t') : SimAt T (m >>= f) (m' >>= f') s s' := by
  intro r s1 e
  obtain ⟨a, t, e1, e2⟩ := bind_out e
  obtain ⟨a', t', h1, h2, h3⟩ := h a t e1
  obtain ⟨r', s1', h4, h5, h6⟩ := k a a' t t' h2 h3 r s1 e2
  exact ⟨r', s1', (bind_in h1).trans h4, h5, fun he => ⟨(h3 (h6 he).1).1, (h6 he).2⟩⟩
theorem SimAt.ret {α : Type} {a a' : α} {s s' : PS} (h : Sm T s s') (k : s.er = 0 → a' = a) : SimAt T (pure a) (pure a') s s' := by
  intro r s1 e
  have e := pure_out e
  injection e with e1 e2
  subst e1; subst e2
  exact ⟨a', s', rfl, h, fun he => ⟨he, k he⟩⟩
theorem SimAt.askL {α β : Type} {g : PS → α} {f : α → PM β} {m' : PM β} {s s' : PS} (h : SimAt T (f (g s)) m' s s') : SimAt T (ask g >>= f) m' s s' := h
theorem SimAt.askR {α β : Type} {g : PS → α} {f : α → PM β} {m : PM β} {s s' : PS} (h : SimAt T m (f (g s')) s s') : SimAt T m (ask g >>= f) s s' := h
theorem SimAt.asks {α β : Type} {g g' : PS → α} {f f' : α → PM β} {s s' : PS} (e : g' s' = g s) (h : SimAt T (f (g s)) (f' (g s)) s s') : SimAt T (ask g >>= f) (ask g' >>= f') s s' := by
  refine SimAt.askL (SimAt.askR ?_)
  rw [e]
  exact h
/-- Behind an error there is none no more. -/
def Le (s t : PS) : Prop := t.er = 0 → s.er = 0
theorem Le.trans {a b c : PS} (h : Le a b) (k : Le b c) : Le a c := fun e => h (k e)
theorem SimAt.le {α : Type} {m m' : PM α} {s s' t : PS} (hl : Le t s) (h : SimAt T m m' s s') : ∀ r s1, m s = some (r, s1) → ∃ r' s1', m' s' = some (r', s1') ∧ Sm T s1 s1' ∧ (s1.er = 0 → t.er = 0 ∧ r' = r) := fun r s1 e => by
  obtain ⟨r', s1', h1, h2, h3⟩ := h r s1 e
  exact ⟨r', s1', h1, h2, fun he => ⟨hl (h3 he).1, (h3 he).2⟩⟩
theorem SimAt.both {β : Type} {g g' : PS → PS} {f f' : Unit → PM β} {s s' : PS} (hl : Le s (g s)) (h : SimAt T (f ()) (f' ()) (g s) (g' s')) : SimAt T (mod g >>= f) (mod g' >>= f') s s' := fun r s1 e => h.le hl r s1 e
theorem le_next (s : PS) : Le s (nextS T s) := by unfold Le nextS; split <;> exact id
theorem le_fail {e : Nat} (he : e ≠ 0) (s : PS) : Le s (failS T e s) := by
  unfold Le failS
  split
  · intro h; exact absurd h he
  · exact id
theorem le_want (x : List UInt8) (s : PS) : Le s (wantS T x s) := by
  unfold wantS
  split
  · exact le_next s
  · exact le_fail (by decide) s
theorem le_name (s : PS) : Le s (nameS T s) := by
  unfold nameS
  split
  · exact le_next s
  · exact le_fail (by decide) s
theorem SimAt.next {β : Type} {f f' : Unit → PM β} {s s' : PS} (hi : s'.i + 1 < T.length) (h : SimAt T (f ()) (f' ()) (nextS T s) (stepR s')) : SimAt T (mod (nextS T) >>= f) (goR T >>= f') s s' := by
  intro r s1 e
  obtain ⟨r', s1', h1, h2, h3⟩ := h.le (le_next s) r s1 e
  exact ⟨r', s1', (bind_in (m := goR T) (show goR T s' = some ((), stepR s') from if_pos hi)).trans h1, h2, h3⟩
theorem Sm.dp {s s' : PS} (hs : Sm T s s') (d : Int) : Sm T { s with dp := s.dp + d } { s' with dp := s'.dp + d } := by
  obtain ⟨h1, h2, h3⟩ := hs
  refine ⟨h1, by show s'.dp + d = s.dp + d; rw [h2], ?_⟩
  rcases h3 with ⟨a, rfl⟩ | h3
  · exact .inl ⟨a, rfl⟩
  · exact .inr h3
theorem deep_some {d : Int} {s s1 : PS} {u : Unit} (e : deepS d s = some (u, s1)) : (-1000000 < s.dp ∧ s.dp < 1000000) ∧ s1 = { s with dp := s.dp + d } := by
  unfold deepS at e
  split at e
  · rename_i hl
    injection e with e
    injection e with e3 e4
    exact ⟨hl, e4.symm⟩
  · cases e
theorem SimAt.deep {β : Type} {f f' : Unit → PM β} {s s' : PS} (d : Int) (hs : Sm T s s') (h : ∀ t t', Sm T t t' → (t.er = 0 → s.er = 0) → SimAt T (f ()) (f' ()) t t') : SimAt T (deepS d >>= f) (deepS d >>= f') s s' := by
  intro r s1 e
  obtain ⟨a, t, e1, e2⟩ := bind_out e
  obtain ⟨hl, rfl⟩ := deep_some e1
  obtain ⟨r', s1', h1, h2, h3⟩ := h _ _ (hs.dp d) id r s1 e2
  exact ⟨r', s1', (bind_in (m := deepS d) (show deepS d s' = some ((), { s' with dp := s'.dp + d }) from if_pos (by rw [hs.2.1]; exact hl))).trans h1, h2, h3⟩
theorem node_some {n : Nd} {l : List Int} {s s1 : PS} {r : Int} (e : nodeM n l s = some (r, s1)) : s.nd.length < 100000 ∧ r = (s.nd.length : Int) ∧ s1 = { s with nd := s.nd ++ [{ n with l := l }] } := by
  unfold nodeM at e
  split at e
  · rename_i hl
    injection e with e
    injection e with e1 e2
    exact ⟨hl, e1.symm, e2.symm⟩
  · cases e
theorem SimAt.node {n n' : Nd} {l l' : List Int} {s s' : PS} (hs : Sm T s s') (hn : s.er = 0 → n' = n ∧ l' = l) : SimAt T (nodeM n l) (nodeM n' l') s s' := by
  intro r s1 e
  obtain ⟨hl, rfl, rfl⟩ := node_some e
  obtain ⟨h1, h2, ⟨h3, rfl⟩ | h3⟩ := hs
  · obtain ⟨rfl, rfl⟩ := hn h3
    exact ⟨_, _, if_pos hl, ⟨h1, rfl, .inl ⟨h3, rfl⟩⟩, fun _ => ⟨h3, rfl⟩⟩
  · obtain ⟨h4, h5, h6, h7, h8⟩ := h3
    refine ⟨_, _, if_pos (by omega), ⟨h1, h2, .inr ⟨h4, h5, h6, h7, ?_⟩⟩, fun h => absurd h h4⟩
    show (s'.nd ++ [_]).length ≤ (s.nd ++ [_]).length
    rw [List.length_append, List.length_append]
    exact Nat.add_le_add_right h8 1
/-- The parser puts a node behind an error, the reader none. -/
theorem SimAt.nodeL {n : Nd} {l : List Int} {a : Int} {s s' : PS} (hs : Sm T s s') (he : s.er ≠ 0) : SimAt T (nodeM n l) (pure a) s s' := by
  intro r s1 e
  obtain ⟨hl, rfl, rfl⟩ := node_some e
  obtain ⟨h1, h2, ⟨h3, rfl⟩ | h3⟩ := hs
  · exact absurd h3 he
  · obtain ⟨h4, h5, h6, h7, h8⟩ := h3
    refine ⟨_, _, rfl, ⟨h1, h2, .inr ⟨h4, h5, h6, h7, ?_⟩⟩, fun h => absurd h h4⟩
    show s'.nd.length ≤ (s.nd ++ [_]).length
    rw [List.length_append]
    exact Nat.le_trans h8 (Nat.le_add_right _ _)
theorem Sm.refl {s : PS} (hi : s.i < T.length) (he : s.er = 0) : Sm T s s := ⟨hi, rfl, .inl ⟨he, rfl⟩⟩
theorem Sm.same {s s' : PS} (h : Sm T s s') (he : s.er = 0) : s' = s := by
  obtain ⟨_, _, ⟨_, h⟩ | h⟩ := h
  · exact h
  · exact absurd he h.1
theorem Sm.er {s s' : PS} (h : Sm T s s') : s'.er = s.er := by
  obtain ⟨_, _, ⟨_, rfl⟩ | h⟩ := h
  · rfl
  · exact h.2.1
theorem Sm.k0 {s s' : PS} (hT : EndT T) (h : Sm T s s') (he : s.er ≠ 0) : (tokA T s).k = 0 := by
  obtain ⟨h1, _, ⟨h2, rfl⟩ | h⟩ := h
  · exact absurd h2 he
  · unfold tokA
    rw [h.2.2.2.1]
    exact hT.2.2
theorem isS_end {ts : List (List UInt8)} {s : PS} (h : (tokA T s).k = 0) : isS T ts s = false := by
  cases hb : isS T ts s with
  | false => rfl
  | true => exact absurd h (isS_k hb)
theorem Sm.is {s s' : PS} (hT : EndT T) (h : Sm T s s') (x : List UInt8) : isR T x s' = isS T [x] s := by
  by_cases he : s.er = 0
  · rw [h.same he]
    unfold isR isS
    rw [decide_eq_true he, Bool.true_and]
    congr 1
    simp [List.contains_cons]
  · rw [isS_end (h.k0 hT he)]
    unfold isR
    rw [h.er, decide_eq_false he, Bool.false_and]
theorem Sm.calls {s s' : PS} (hT : EndT T) (h : Sm T s s') : callsR T s' = callsS T s := by
  by_cases he : s.er = 0
  · rw [h.same he]
    unfold callsR callsS kindR
    rw [decide_eq_true he, Bool.true_and]
  · unfold callsR kindR callsS
    rw [h.er, decide_eq_false he, Bool.false_and, Bool.false_and, h.k0 hT he]
    rfl
theorem Sm.nameX {s s' : PS} (hT : EndT T) (h : Sm T s s') : wnameX T s' = nameX T s := by
  by_cases he : s.er = 0
  · rw [h.same he]
    unfold wnameX Go.Proofs.YtgelggdgbmldiaaDoor.nameX kindR
    rw [decide_eq_true he, Bool.true_and]
    by_cases hk : (tokA T s).k = 3
    · rw [if_pos (decide_eq_true hk), if_pos hk]
    · rw [if_neg (by rw [decide_eq_false hk]; decide), if_neg hk]
  · unfold wnameX Go.Proofs.YtgelggdgbmldiaaDoor.nameX kindR
    rw [h.er, decide_eq_false he, Bool.false_and, h.k0 hT he]
    rfl
theorem next_step (hT : EndT T) {s : PS} (hi : s.i < T.length) (hk : (tokA T s).k ≠ 0) : nextS T s = stepR s ∧ s.i + 1 < T.length := by
  have h1 : s.i ≠ T.length - 1 := fun e => hk (by unfold tokA; rw [e]; exact hT.2.2)
  have h2 : s.i < T.length - 1 := by omega
  exact ⟨if_pos h2, by omega⟩
theorem Sm.step {s s' : PS} (hT : EndT T) (h : Sm T s s') (hk : (tokA T s).k ≠ 0) : s'.i + 1 < T.length ∧ Sm T (nextS T s) (stepR s') := by
  by_cases he : s.er = 0
  · have e := h.same he
    subst e
    obtain ⟨e, hi⟩ := next_step hT h.1 hk
    rw [e]
    exact ⟨hi, Sm.refl hi he⟩
  · exact absurd (h.k0 hT he) hk
theorem Sm.fail {s s' : PS} (hT : EndT T) (h : Sm T s s') {e : Nat} (hx : e ≠ 0) : Sm T (failS T e s) (failR T e s') := by
  by_cases he : s.er = 0
  · have e1 := h.same he
    subst e1
    unfold failS failR
    rw [if_pos he, if_pos he]
    exact ⟨h.1, rfl, .inr ⟨hx, rfl, rfl, rfl, Nat.le_refl _⟩⟩
  · unfold failS failR
    rw [if_neg he, if_neg (by rw [h.er]; exact he)]
    exact h
theorem Sm.want {s s' : PS} (hT : EndT T) (h : Sm T s s') (x : List UInt8) : Sm T (wantS T x s) (mustR T x s') := by
  unfold wantS mustR
  rw [h.is hT]
  by_cases hb : isS T [x] s = true
  · rw [if_pos hb, if_pos hb]
    exact (h.step hT (isS_k hb)).2
  · rw [if_neg hb, if_neg hb]
    exact h.fail hT (by decide)
theorem Sm.name {s s' : PS} (hT : EndT T) (h : Sm T s s') : Sm T (nameS T s) (wnameR T s') := by
  unfold nameS wnameR kindR
  by_cases hk : (tokA T s).k = 3
  · have he : s.er = 0 := by
      by_cases he : s.er = 0
      · exact he
      · have := h.k0 hT he; omega
    rw [if_pos hk, h.same he, if_pos (by rw [decide_eq_true he, decide_eq_true hk]; rfl)]
    have := (h.step hT (by omega)).2
    rw [h.same he] at this
    exact this
  · rw [if_neg hk]
    by_cases he : s.er = 0
    · rw [if_neg (by rw [h.same he, decide_eq_false hk, Bool.and_false]; decide)]
      exact h.fail hT (by decide)
    · rw [if_neg (by rw [h.er, decide_eq_false he, Bool.false_and]; decide)]
      exact h.fail hT (by decide)
/-- Behind an error the parser's want, name and the like change nothing. -/
theorem want_end {s : PS} (he : s.er ≠ 0) (hk : (tokA T s).k = 0) (x : List UInt8) : wantS T x s = s := by
  unfold wantS failS
  rw [isS_end hk, if_neg (by decide), if_neg he]
theorem name_end {s : PS} (he : s.er ≠ 0) (hk : (tokA T s).k = 0) : nameS T s = s := by
  unfold nameS failS
  rw [hk, if_neg (by decide), if_neg he]
end
end Go.Proofs.YtgelggdgbmldiaaDoor

namespace Go.Proofs.YtgelggdgbmldiaaDoor
set_option linter.unusedVariables false
set_option linter.unusedSimpArgs false
section
variable {src : List UInt8} {T : List Tok}
/-- What the parser does behind an error: nodes alone. -/
def Pers {α : Type} (T : List Tok) (m : PM α) : Prop := ∀ s r s1, s.er ≠ 0 → (tokA T s).k = 0 → m s = some (r, s1) → ∃ x, s1 = { s with nd := s.nd ++ x }
theorem Sm.more {s s' : PS} (h : Sm T s s') (he : s.er ≠ 0) (x : List Nd) : Sm T { s with nd := s.nd ++ x } s' := by
  obtain ⟨h1, h2, ⟨h3, _⟩ | ⟨h4, h5, h6, h7, h8⟩⟩ := h
  · exact absurd h3 he
  · refine ⟨h1, h2, .inr ⟨h4, h5, h6, h7, ?_⟩⟩
    show _ ≤ (s.nd ++ x).length
    rw [List.length_append]
    omega
theorem SimAt.persR {α : Type} {m : PM α} {a : α} (h : Pers T m) {s s' : PS} (hT : EndT T) (hs : Sm T s s') (he : s.er ≠ 0) : SimAt T m (pure a) s s' := by
  intro r s1 e
  obtain ⟨x, rfl⟩ := h s r s1 he (hs.k0 hT he) e
  exact ⟨a, s', rfl, hs.more he x, fun h => absurd h he⟩
theorem variable_pers (ex : PM Int) (ln : Int) : Pers T (variableM T ex ln) := by
  intro s r s1 he hk e
  unfold variableM at e
  have e : (do let b ← ask (isS T [[91]])
               if b then (do
                 let y ← insideM T ex [91] [93]
                 nodeM ⟨5, ln, 0, nameX T s, []⟩ [y])
               else nodeM ⟨4, ln, 0, nameX T s, []⟩ [] : PM Int) (nameS T s) = some (r, s1) := e
  rw [name_end he hk] at e
  have e : (if isS T [[91]] s then (do
                 let y ← insideM T ex [91] [93]
                 nodeM ⟨5, ln, 0, nameX T s, []⟩ [y])
               else nodeM ⟨4, ln, 0, nameX T s, []⟩ [] : PM Int) s = some (r, s1) := e
  rw [isS_end hk, if_neg (by decide)] at e
  obtain ⟨_, _, e⟩ := node_some e
  exact ⟨_, e⟩
theorem factor_pers (fac ex : PM Int) : Pers T (factorM src T fac ex) := by
  intro s r s1 he hk e
  unfold factorM at e
  have e : (if isS T [[33]] s then _ else _ : PM Int) s = some (r, s1) := e
  rw [isS_end hk, if_neg (by decide)] at e
  have e : (if isS T [[45]] s then _ else _ : PM Int) s = some (r, s1) := e
  rw [isS_end hk, if_neg (by decide)] at e
  unfold atomM at e
  have e : (if (tokA T s).k = 1 then _ else _ : PM Int) s = some (r, s1) := e
  rw [hk, if_neg (by decide), if_neg (by decide)] at e
  have e : (if isS T [[116, 114, 117, 101], [102, 97, 108, 115, 101]] s then _ else _ : PM Int) s = some (r, s1) := e
  rw [isS_end hk, if_neg (by decide)] at e
  have e : (if isS T [[108, 101, 110]] s then _ else _ : PM Int) s = some (r, s1) := e
  rw [isS_end hk, if_neg (by decide)] at e
  have e : (if isS T [[40]] s then _ else _ : PM Int) s = some (r, s1) := e
  rw [isS_end hk, if_neg (by decide)] at e
  exact variable_pers ex _ s r s1 he hk e
theorem chain_pers (lv : Nat) (sub : PM Int) (ln : Int) (n : Nat) (x : Int) : Pers T (chainR T lv sub ln n x) := by
  intro s r s1 he hk e
  cases n with
  | zero => cases e
  | succ n =>
    unfold chainR at e
    have e : (if isS T (signsL lv) s then _ else _ : PM Int) s = some (r, s1) := e
    rw [isS_end hk, if_neg (by decide)] at e
    have e := pure_out e
    injection e with e1 e2
    exact ⟨[], by rw [List.append_nil, ← e2]⟩
theorem Pers.bind {α β : Type} {m : PM α} {f : α → PM β} (h : Pers T m) (k : ∀ a, Pers T (f a)) : Pers T (m >>= f) := by
  intro s r s1 he hk e
  obtain ⟨a, t, e1, e2⟩ := bind_out e
  obtain ⟨x, rfl⟩ := h s a t he hk e1
  obtain ⟨y, rfl⟩ := k a { s with nd := s.nd ++ x } r s1 he hk e2
  exact ⟨x ++ y, by rw [← List.append_assoc]⟩
theorem Pers.ask {α β : Type} {g : PS → α} {f : α → PM β} (k : ∀ a, Pers T (f a)) : Pers T (ask g >>= f) := fun s r s1 he hk e => k _ s r s1 he hk e
theorem ex_pers : ∀ n lv, Pers T (exM src T n lv) := by
  intro n
  induction n with
  | zero => intro lv s r s1 _ _ e; cases e
  | succ n ih =>
    intro lv
    unfold exM
    by_cases h5 : lv = 5
    · rw [if_pos h5]
      exact factor_pers _ _
    · rw [if_neg h5]
      exact Pers.ask fun ln => (ih (lv + 1)).bind fun x => chain_pers _ _ _ _ _
/-- An opening sign that stands there. -/
theorem open_sim (hT : EndT T) {β : Type} {f f' : Unit → PM β} {a : List UInt8} {s s' : PS} (hs : Sm T s s') (ha : isS T [a] s = true) (k : ∀ u u', Sm T u u' → Le s u → SimAt T (f ()) (f' ()) u u') : SimAt T (openM T a >>= f) (downR T >>= fun _ => mod (mustR T a) >>= f') s s' := by
  have he : s.er = 0 := by
    by_cases he : s.er = 0
    · exact he
    · rw [isS_end (hs.k0 hT he)] at ha; cases ha
  have e := hs.same he
  subst e
  have hopen : Sm T { openS T a s' with dp := (openS T a s').dp + 1 } (mustR T a { deepR T s' with dp := (deepR T s').dp + 1 }) := by
    by_cases hd : 16 ≤ s'.dp
    · have e1 : openS T a s' = failS T 21 s' := by
        unfold openS
        rw [ha, decide_eq_true hd, Bool.true_and, if_pos rfl]
        have e2 : failS T 21 s' = { s' with pl := (tokA T s').p, er := 21, i := T.length - 1 } := if_pos he
        exact want_end (by rw [e2]; show (21 : Nat) ≠ 0; decide) (by rw [e2]; exact hT.2.2) a
      have e2 : deepR T s' = failR T 21 s' := if_pos hd
      rw [e1, e2]
      have h1 := (hs.fail hT (e := 21) (by decide)).dp 1
      have h2 : mustR T a { failR T 21 s' with dp := (failR T 21 s').dp + 1 } = { failR T 21 s' with dp := (failR T 21 s').dp + 1 } := by
        have e3 : failR T 21 s' = { s' with pl := (tokA T s').p, er := 21 } := if_pos he
        rw [e3]
        unfold mustR isR failR
        rw [decide_eq_false (show ¬ (21 : Nat) = 0 by decide), Bool.false_and, if_neg (by decide), if_neg (show ¬ (21 : Nat) = 0 by decide)]
      rw [h2]
      exact h1
    · have e1 : openS T a s' = wantS T a s' := by
        unfold openS
        rw [decide_eq_false hd, Bool.and_false, if_neg (by decide)]
      have e2 : deepR T s' = s' := if_neg hd
      rw [e1, e2]
      have h1 := (hs.want hT a).dp 1
      have h2 : mustR T a { s' with dp := s'.dp + 1 } = { mustR T a s' with dp := (mustR T a s').dp + 1 } := by
        have e3 : isR T a s' = true := by rw [hs.is hT]; exact ha
        have e4 : isR T a { s' with dp := s'.dp + 1 } = true := e3
        unfold mustR
        rw [if_pos e3, if_pos e4]
        rfl
      rw [h2]
      exact h1
  intro r s1 e
  unfold openM at e
  obtain ⟨u, t, e1, e2⟩ := bind_out e
  have e1 : deepS 1 (openS T a s') = some (u, t) := e1
  obtain ⟨hl, rfl⟩ := deep_some e1
  obtain ⟨r', s1', h1, h2, h3⟩ := k _ _ hopen (fun _ => he) r s1 e2
  refine ⟨r', s1', ?_, h2, fun h => ⟨he, (h3 h).2⟩⟩
  have hdp : (deepR T s').dp = s'.dp := by unfold deepR failR; split <;> (try split) <;> rfl
  have hdo : (openS T a s').dp = s'.dp := by have := (open_St hT (s := s') ⟨hs.1, fun h => absurd he h⟩ a).2.2.2; omega
  have h4 : deepS 1 (deepR T s') = some ((), { deepR T s' with dp := (deepR T s').dp + 1 }) := if_pos (by rw [hdp, ← hdo]; exact hl)
  show ((do mod (deepR T); deepS 1) >>= fun _ => _) s' = _
  refine (bind_in (m := (do mod (deepR T); deepS 1 : PM Unit)) (show _ = some ((), { deepR T s' with dp := (deepR T s').dp + 1 }) from h4)).trans ?_
  exact h1
theorem shut_sim (hT : EndT T) {β : Type} {f f' : Unit → PM β} {b : List UInt8} {s s' : PS} (hs : Sm T s s') (k : ∀ u u', Sm T u u' → Le s u → SimAt T (f ()) (f' ()) u u') : SimAt T (shutM T b >>= f) (mod (mustR T b) >>= fun _ => deepS (-1) >>= f') s s' := by
  have A : (shutM T b >>= f) = (mod (wantS T b) >>= fun _ => deepS (-1) >>= f) := bind_assoc _ _ _
  rw [A]
  refine SimAt.both (le_want b s) ?_
  refine SimAt.deep (-1) (hs.want hT b) ?_
  intro v v' hv hvl
  exact k v v' hv (fun h => le_want b s (hvl h))
/-- Between two signs, where the first one stands. -/
theorem within_sim (hT : EndT T) {ex ex' : PM Int} {a b : List UInt8} (hx : ∀ s s', Sm T s s' → SimAt T ex ex' s s') {s s' : PS} (hs : Sm T s s') (ha : isS T [a] s = true) : SimAt T (insideM T ex a b) (withinR T ex' a b) s s' := by
  unfold insideM withinR
  refine open_sim hT hs ha ?_
  intro u u' hu hl
  refine SimAt.bind (hx u u' hu) ?_
  intro x x' t t' ht hx'
  refine shut_sim hT ht ?_
  intro v v' hv hvl
  exact SimAt.ret hv (fun h => (hx' (hvl h)).2)
theorem fail_end {u u' : PS} (hT : EndT T) (hu : Sm T u u') : (failS T 20 u).er ≠ 0 ∧ (tokA T (failS T 20 u)).k = 0 := by
  by_cases he : u.er = 0
  · have e : failS T 20 u = { u with pl := (tokA T u).p, er := 20, i := T.length - 1 } := if_pos he
    rw [e]
    exact ⟨by show (20 : Nat) ≠ 0; decide, hT.2.2⟩
  · have e : failS T 20 u = u := if_neg he
    rw [e]
    exact ⟨he, hu.k0 hT he⟩
theorem open_bad {a : List UInt8} {u : PS} (ha : isS T [a] u = false) : openS T a u = failS T 20 u := by
  unfold openS
  rw [ha, Bool.false_and, if_neg (show ¬ false = true by decide)]
  unfold wantS
  rw [ha, if_neg (show ¬ false = true by decide)]
/-- The parser, where the first sign is not there. -/
theorem inside_bad (hT : EndT T) {ex : PM Int} (hp : Pers T ex) {a b : List UInt8} {u u' v : PS} {r : Int} (hu : Sm T u u') (ha : isS T [a] u = false) (e : insideM T ex a b u = some (r, v)) : ∃ x, v = { failS T 20 u with nd := (failS T 20 u).nd ++ x } := by
  obtain ⟨h1, h2⟩ := fail_end hT hu
  unfold insideM openM shutM at e
  obtain ⟨_, t, e1, e⟩ := bind_out e
  have e1 : deepS 1 (openS T a u) = some (_, t) := e1
  rw [open_bad ha] at e1
  obtain ⟨_, rfl⟩ := deep_some e1
  generalize failS T 20 u = g at *
  obtain ⟨x, t2, e2, e⟩ := bind_out e
  obtain ⟨l, rfl⟩ := hp _ _ _ (by exact h1) (by exact h2) e2
  obtain ⟨_, t3, e3, e⟩ := bind_out e
  have e3 : deepS (-1) (wantS T b _) = some (_, t3) := e3
  rw [want_end (by exact h1) (by exact h2)] at e3
  obtain ⟨_, rfl⟩ := deep_some e3
  have e := pure_out e
  injection e with e4 e5
  refine ⟨l, ?_⟩
  rw [e5]
  show ({ i := g.i, pl := g.pl, er := g.er, nd := g.nd ++ l, dp := g.dp + 1 + -1 } : PS) = { i := g.i, pl := g.pl, er := g.er, nd := g.nd ++ l, dp := g.dp }
  rw [show g.dp + 1 + -1 = g.dp by omega]
theorem go_node (hT : EndT T) {s s' : PS} (hs : Sm T s s') (hk : (tokA T s).k ≠ 0) (n : Nd) (l : List Int) : SimAt T (do mod (nextS T); nodeM n l) (do goR T; nodeM n l) s s' := by
  obtain ⟨hi, h1⟩ := hs.step hT hk
  exact SimAt.next hi (SimAt.node h1 (fun _ => ⟨rfl, rfl⟩))
theorem er_of_k {s s' : PS} (hT : EndT T) (hs : Sm T s s') (hk : (tokA T s).k ≠ 0) : s.er = 0 ∧ s' = s := by
  have he : s.er = 0 := by
    by_cases he : s.er = 0
    · exact he
    · exact absurd (hs.k0 hT he) hk
  exact ⟨he, hs.same he⟩
theorem isS_x {a : List UInt8} {s : PS} (h : isS T [a] s = true) : (tokA T s).x = a := by
  unfold isS at h
  exact List.mem_singleton.1 (List.contains_iff_mem.1 ((Bool.and_eq_true _ _).mp h).2)
theorem isS_two (a b : List UInt8) (s : PS) : isS T [a, b] s = (isS T [a] s || isS T [b] s) := by
  unfold isS
  simp only [List.contains_cons, List.contains_nil, Bool.or_false]
  cases (decide ((tokA T s).k = 5) || decide ((tokA T s).k = 4)) <;> simp
theorem atom_sim (hT : EndT T) {ex ex' : PM Int} (hx : ∀ s s', Sm T s s' → SimAt T ex ex' s s') (hxp : Pers T ex) (hp : Pers T (atomM src T ex)) {s s' : PS} (hs : Sm T s s') : SimAt T (atomM src T ex) (ratomM src T ex') s s' := by
  by_cases he : s.er = 0
  · have e := hs.same he
    subst e
    unfold atomM ratomM
    refine SimAt.asks rfl (SimAt.asks rfl (SimAt.askR ?_))
    try dsimp only
    rw [if_neg (show ¬ (s'.er ≠ 0) from fun h => h he)]
    by_cases h1 : (tokA T s').k = 1
    · rw [if_pos h1, if_pos h1]
      exact go_node hT hs (by omega) _ _
    rw [if_neg h1, if_neg h1]
    by_cases h2 : (tokA T s').k = 2
    · rw [if_pos h2, if_pos h2]
      exact go_node hT hs (by omega) _ _
    rw [if_neg h2, if_neg h2]
    by_cases h3 : (tokA T s').k = 3
    · rw [if_pos h3]
      have hno : ∀ ts, isS T ts s' = false := fun ts => by unfold isS; rw [h3]; rfl
      refine SimAt.askL ?_
      try dsimp only
      rw [hno, if_neg (by decide)]
      refine SimAt.askL ?_
      try dsimp only
      rw [hno, if_neg (by decide)]
      refine SimAt.askL ?_
      try dsimp only
      rw [hno, if_neg (by decide)]
      unfold variableM
      refine SimAt.askL ?_
      have hX : nameX T s' = (tokA T s').x := if_pos h3
      have hN : nameS T s' = nextS T s' := if_pos h3
      rw [hX]
      obtain ⟨hi, hS⟩ := hs.step hT (by omega)
      intro r s1 e
      have e : (do let b ← ask (isS T [[91]])
                   if b then (do
                     let y ← insideM T ex [91] [93]
                     nodeM ⟨5, lineS src T s', 0, (tokA T s').x, []⟩ [y])
                   else nodeM ⟨4, lineS src T s', 0, (tokA T s').x, []⟩ [] : PM Int) (nameS T s') = some (r, s1) := e
      rw [hN] at e
      refine (SimAt.next (f := fun _ => _) hi ?_) r s1 e
      refine SimAt.askR ?_
      try dsimp only
      rw [hS.is hT [91]]
      by_cases hb : isS T [[91]] (nextS T s') = true
      · rw [if_pos hb, if_pos hb]
        refine SimAt.bind (within_sim hT hx hS hb) ?_
        intro a a' t t' ht hl
        exact SimAt.node ht (fun h => ⟨rfl, by rw [(hl h).2]⟩)
      · rw [if_neg hb, if_neg hb]
        exact SimAt.node hS (fun _ => ⟨rfl, rfl⟩)
    rw [if_neg h3]
    refine SimAt.askR (SimAt.askR (SimAt.askL ?_))
    try dsimp only
    rw [hs.is hT, hs.is hT, isS_two]
    by_cases hb : (isS T [[116, 114, 117, 101]] s' || isS T [[102, 97, 108, 115, 101]] s') = true
    · rw [if_pos hb, if_pos hb]
      have hk : (tokA T s').k ≠ 0 := by
        rcases Bool.or_eq_true _ _ ▸ hb with h | h
        · exact isS_k h
        · exact isS_k h
      have hv : (if (tokA T s').x = [116, 114, 117, 101] then (1 : Int) else 0) = (if isS T [[116, 114, 117, 101]] s' = true then 1 else 0) := by
        by_cases hy : isS T [[116, 114, 117, 101]] s' = true
        · rw [if_pos hy]
          rw [if_pos (isS_x hy)]
        · rw [if_neg hy]
          have hf : isS T [[102, 97, 108, 115, 101]] s' = true := by
            rcases Bool.or_eq_true _ _ ▸ hb with h | h
            · exact absurd h hy
            · exact h
          rw [isS_x hf]
          rfl
      rw [hv]
      exact go_node hT hs hk _ _
    rw [if_neg hb, if_neg hb]
    clear hb
    refine SimAt.asks (hs.is hT _) ?_
    try dsimp only
    by_cases hlen : isS T [[108, 101, 110]] s' = true
    · rw [if_pos hlen, if_pos hlen]
      obtain ⟨hi, hS⟩ := hs.step hT (isS_k hlen)
      refine SimAt.next hi ?_
      try dsimp only
      have hue : (nextS T s').er = 0 := by unfold nextS; split <;> exact he
      generalize nextS T s' = u at *
      generalize stepR s' = u' at *
      refine SimAt.askR ?_
      try dsimp only
      rw [hS.is hT]
      by_cases hb : isS T [[40]] u = true
      · rw [if_pos hb]
        refine SimAt.bind (within_sim hT hx hS hb) ?_
        intro a a' t t' ht hl
        rw [if_pos hlen]
        exact SimAt.node ht (fun h => ⟨rfl, by rw [(hl h).2]⟩)
      · rw [if_neg hb]
        have hb : isS T [[40]] u = false := by simpa using hb
        intro r s1 e
        obtain ⟨x, v, e1, e2⟩ := bind_out e
        obtain ⟨l, rfl⟩ := inside_bad hT hxp hS hb e1
        obtain ⟨_, _, rfl⟩ := node_some e2
        have hE := (fail_end hT hS).1
        exact ⟨0, failR T 20 u', rfl, ((hS.fail hT (e := 20) (by decide)).more hE l).more hE _, fun h => absurd h hE⟩
    rw [if_neg hlen, if_neg hlen]
    refine SimAt.asks (hs.is hT _) ?_
    try dsimp only
    by_cases hb : isS T [[40]] s' = true
    · rw [if_pos hb, if_pos hb]
      intro r s1 e
      refine (SimAt.bind (f := fun x => pure x) (f' := fun x => if isS T [[108, 101, 110]] s' = true then _ else pure x) (within_sim hT hx hs hb) ?_) r s1 ?_
      · intro a a' t t' ht hl2
        try dsimp only
        rw [if_neg hlen]
        exact SimAt.ret ht (fun h => (hl2 h).2)
      · exact (bind_pure (insideM T ex [40] [41])).symm ▸ e
    · rw [if_neg hb, if_neg hb]
      have h3' : (tokA T s').k ≠ 3 := h3
      unfold variableM
      refine SimAt.askL ?_
      intro r s1 e
      have hN : nameS T s' = failS T 20 s' := if_neg h3'
      have e : (do let b ← ask (isS T [[91]])
                   if b then (do
                     let y ← insideM T ex [91] [93]
                     nodeM ⟨5, lineS src T s', 0, nameX T s', []⟩ [y])
                   else nodeM ⟨4, lineS src T s', 0, nameX T s', []⟩ [] : PM Int) (nameS T s') = some (r, s1) := e
      rw [hN] at e
      have hF := hs.fail hT (e := 20) (by decide)
      have hE : (failS T 20 s').er ≠ 0 := by unfold failS; rw [if_pos he]; show (20 : Nat) ≠ 0; decide
      have e : (if isS T [[91]] (failS T 20 s') then (do
                     let y ← insideM T ex [91] [93]
                     nodeM ⟨5, lineS src T s', 0, nameX T s', []⟩ [y])
                   else nodeM ⟨4, lineS src T s', 0, nameX T s', []⟩ [] : PM Int) (failS T 20 s') = some (r, s1) := e
      rw [isS_end (hF.k0 hT hE), if_neg (by decide)] at e
      obtain ⟨r', s1', h4, h5, h6⟩ := SimAt.nodeL (a := 0) hF hE r s1 e
      exact ⟨r', s1', h4, h5, fun h => absurd (h6 h).1 hE⟩
  · intro r s1 e
    obtain ⟨x, rfl⟩ := hp s r s1 he (hs.k0 hT he) e
    refine ⟨0, s', ?_, hs.more he x, fun h => absurd h he⟩
    unfold ratomM
    show (if s'.er ≠ 0 then _ else _ : PM Int) s' = _
    rw [if_pos (by rw [hs.er]; exact he)]
    rfl
theorem atom_pers (ex : PM Int) : Pers T (atomM src T ex) := by
  intro s r s1 he hk e
  unfold atomM at e
  have e : (if (tokA T s).k = 1 then _ else _ : PM Int) s = some (r, s1) := e
  rw [hk, if_neg (by decide), if_neg (by decide)] at e
  have e : (if isS T [[116, 114, 117, 101], [102, 97, 108, 115, 101]] s then _ else _ : PM Int) s = some (r, s1) := e
  rw [isS_end hk, if_neg (by decide)] at e
  have e : (if isS T [[108, 101, 110]] s then _ else _ : PM Int) s = some (r, s1) := e
  rw [isS_end hk, if_neg (by decide)] at e
  have e : (if isS T [[40]] s then _ else _ : PM Int) s = some (r, s1) := e
  rw [isS_end hk, if_neg (by decide)] at e
  exact variable_pers ex _ s r s1 he hk e
/-- A sign ahead of a factor. -/
theorem sign_sim (hT : EndT T) {fac fac' : PM Int} (hf : ∀ s s', Sm T s s' → SimAt T fac fac' s s') {a : List UInt8} {n : Nd} {s : PS} (hs : Sm T s s) (he : s.er = 0) (ha : isS T [a] s = true) :
    SimAt T (do openM T a; let x ← fac; deepS (-1); nodeM n [x]) (do downR T; goR T; let x ← fac'; deepS (-1); nodeM n [x]) s s := by
  have hk := isS_k ha
  obtain ⟨hi, hS⟩ := hs.step hT hk
  have hopen : Sm T { openS T a s with dp := (openS T a s).dp + 1 } (stepR { deepR T s with dp := (deepR T s).dp + 1 }) := by
    by_cases hd : 16 ≤ s.dp
    · have e2 : failS T 21 s = { s with pl := (tokA T s).p, er := 21, i := T.length - 1 } := if_pos he
      have e1 : openS T a s = failS T 21 s := by
        unfold openS
        rw [ha, decide_eq_true hd, Bool.true_and, if_pos rfl]
        exact want_end (by rw [e2]; show (21 : Nat) ≠ 0; decide) (by rw [e2]; exact hT.2.2) a
      have e4 : deepR T s = failR T 21 s := if_pos hd
      have e3 : failR T 21 s = { s with pl := (tokA T s).p, er := 21 } := if_pos he
      rw [e1, e4, e2, e3]
      exact ⟨hi, rfl, .inr ⟨by show (21 : Nat) ≠ 0; decide, rfl, rfl, rfl, Nat.le_refl _⟩⟩
    · have e1 : openS T a s = nextS T s := by
        unfold openS
        rw [decide_eq_false hd, Bool.and_false, if_neg (by decide)]
        unfold wantS
        rw [if_pos ha]
      have e2 : deepR T s = s := if_neg hd
      rw [e1, e2]
      exact hS.dp 1
  intro r s1 e
  unfold openM at e
  obtain ⟨u, t, e1, e2⟩ := bind_out e
  have e1 : deepS 1 (openS T a s) = some (u, t) := e1
  obtain ⟨hl, rfl⟩ := deep_some e1
  have hdp : (deepR T s).dp = s.dp := by unfold deepR failR; split <;> (try split) <;> rfl
  have hdi : (deepR T s).i = s.i := by unfold deepR failR; split <;> (try split) <;> rfl
  have hdo : (openS T a s).dp = s.dp := by have := (open_St hT (s := s) ⟨hs.1, fun h => absurd he h⟩ a).2.2.2; omega
  have main : SimAt T (do let x ← fac; deepS (-1); nodeM n [x]) (do let x ← fac'; deepS (-1); nodeM n [x]) { openS T a s with dp := (openS T a s).dp + 1 } (stepR { deepR T s with dp := (deepR T s).dp + 1 }) := by
    refine SimAt.bind (hf _ _ hopen) ?_
    intro x x' t t' ht hl
    refine SimAt.deep (-1) ht ?_
    intro v v' hv hvl
    exact SimAt.node hv (fun h => ⟨rfl, by rw [(hl (hvl h)).2]⟩)
  obtain ⟨r', s1', h1, h2, h3⟩ := main r s1 e2
  refine ⟨r', s1', ?_, h2, fun h => ⟨he, (h3 h).2⟩⟩
  have h4 : deepS 1 (deepR T s) = some ((), { deepR T s with dp := (deepR T s).dp + 1 }) := if_pos (by rw [hdp, ← hdo]; exact hl)
  show ((do mod (deepR T); deepS 1) >>= fun _ => _) s = _
  refine (bind_in (m := (do mod (deepR T); deepS 1 : PM Unit)) (show _ = some ((), { deepR T s with dp := (deepR T s).dp + 1 }) from h4)).trans ?_
  refine (bind_in (m := goR T) (show _ = some ((), stepR _) from if_pos (by show (deepR T s).i + 1 < T.length; rw [hdi]; exact hi))).trans ?_
  exact h1
theorem factor_sim (hT : EndT T) {fac fac' ex ex' : PM Int} (hf : ∀ s s', Sm T s s' → SimAt T fac fac' s s') (hx : ∀ s s', Sm T s s' → SimAt T ex ex' s s') (hxp : Pers T ex) {s s' : PS} (hs : Sm T s s') : SimAt T (factorM src T fac ex) (rfactorM src T fac' ex') s s' := by
  by_cases he : s.er = 0
  · have e := hs.same he
    subst e
    unfold factorM rfactorM
    refine SimAt.asks rfl (SimAt.askL (SimAt.askL (SimAt.askR (SimAt.askR ?_))))
    try dsimp only
    rw [hs.is hT, hs.is hT]
    by_cases h1 : isS T [[33]] s' = true
    · have h2 : ¬ isS T [[45]] s' = true := fun h => by have e1 := isS_x h1; have e2 := isS_x h; rw [e1] at e2; cases e2
      have h2 : isS T [[45]] s' = false := by simpa using h2
      rw [h2, h1]
      rw [if_pos rfl, if_pos (show (false || true) = true from rfl), if_neg (show ¬ false = true by decide), isS_x h1]
      exact sign_sim hT hf hs he h1
    · have h1 : isS T [[33]] s' = false := by simpa using h1
      rw [h1, if_neg (by decide), Bool.or_false]
      refine SimAt.askL ?_
      try dsimp only
      by_cases h2 : isS T [[45]] s' = true
      · rw [h2, if_pos rfl, if_pos rfl, if_pos rfl, isS_x h2]
        exact sign_sim hT hf hs he h2
      · have h2 : isS T [[45]] s' = false := by simpa using h2
        rw [h2, if_neg (by decide), if_neg (by decide)]
        exact atom_sim hT hx hxp (atom_pers ex) hs
  · intro r s1 e
    obtain ⟨x, rfl⟩ := factor_pers fac ex s r s1 he (hs.k0 hT he) e
    have hno : ∀ y, isR T y s' = false := fun y => by rw [hs.is hT]; exact isS_end (hs.k0 hT he)
    refine ⟨0, s', ?_, hs.more he x, fun h => absurd h he⟩
    unfold rfactorM
    show (if (isR T [45] s' || isR T [33] s') = true then _ else _ : PM Int) s' = _
    rw [hno, hno, if_neg (by decide)]
    unfold ratomM
    show (if s'.er ≠ 0 then _ else _ : PM Int) s' = _
    rw [if_pos (by rw [hs.er]; exact he)]
    rfl
theorem next_eq {s s' : PS} (hT : EndT T) (hs : Sm T s s') : ∀ l : List (List UInt8), nextR T l s' = if isS T l s then (tokA T s).x else [] := by
  intro l
  unfold nextR
  induction l with
  | nil => simp [isS]
  | cons a l ih =>
    rw [List.filter_cons]
    by_cases ha : isS T [a] s = true
    · rw [if_pos (by rw [hs.is hT]; exact ha)]
      have : isS T (a :: l) s = true := by
        have hx := isS_x ha
        unfold isS at ha ⊢
        have := Bool.and_eq_true _ _ ▸ ha
        rw [this.1, hx]
        simp
      rw [if_pos this, isS_x ha]
      rfl
    · rw [if_neg (by rw [hs.is hT]; exact ha), ih]
      have : isS T (a :: l) s = isS T l s := by
        unfold isS at ha ⊢
        cases hk : (decide ((tokA T s).k = 5) || decide ((tokA T s).k = 4)) with
        | false => rfl
        | true =>
          rw [hk] at ha
          simp only [Bool.true_and, List.contains_cons, List.contains_nil, Bool.or_false] at ha ⊢
          simp at ha
          simp [ha]
      rw [this]
theorem signs_ne (lv : Nat) : ([] : List UInt8) ∉ signsL lv := by
  unfold signsL
  split <;> decide
theorem chain_sim (hT : EndT T) {lv : Nat} {sub sub' : PM Int} (hsub : ∀ s s', Sm T s s' → SimAt T sub sub' s s') :
    ∀ n (x x' ln ln' : Int) s s', Sm T s s' → (s.er = 0 → x' = x ∧ ln' = ln) → SimAt T (chainR T lv sub ln n x) (rchainR T lv sub' ln' n x') s s' := by
  intro n
  induction n with
  | zero => intro x x' ln ln' s s' _ _ r s1 e; cases e
  | succ n ih =>
    intro x x' ln ln' s s' hs hl
    unfold chainR rchainR
    refine SimAt.askL (SimAt.askR ?_)
    try dsimp only
    rw [next_eq hT hs]
    by_cases hb : isS T (signsL lv) s = true
    · rw [if_pos hb, if_pos hb]
      have hx : (tokA T s).x ∈ signsL lv := by
        unfold isS at hb
        exact List.contains_iff_mem.1 ((Bool.and_eq_true _ _).mp hb).2
      rw [if_neg (show ¬ (tokA T s).x = [] from fun h => signs_ne lv (h ▸ hx))]
      have hk := isS_k hb
      obtain ⟨he, e⟩ := er_of_k hT hs hk
      subst e
      obtain ⟨rfl, rfl⟩ := hl he
      refine SimAt.askL ?_
      obtain ⟨hi, hS⟩ := hs.step hT hk
      refine SimAt.next hi ?_
      try dsimp only
      refine SimAt.bind (hsub _ _ hS) ?_
      intro y y' t t' ht hy
      refine SimAt.bind (SimAt.node ht (fun h => ⟨rfl, by rw [(hy h).2]⟩)) ?_
      intro z z' u u' hu hz
      try dsimp only
      by_cases h2 : lv = 2
      · rw [if_pos h2, if_pos h2]
        exact SimAt.ret hu (fun h => (hz h).2)
      · rw [if_neg h2, if_neg h2]
        exact ih z z' _ _ u u' hu (fun h => ⟨(hz h).2, rfl⟩)
    · rw [if_neg hb, if_neg hb, if_pos rfl]
      exact SimAt.ret hs (fun h => (hl h).1)
theorem ex_sim (hT : EndT T) : ∀ n lv s s', Sm T s s' → SimAt T (exM src T n lv) (rexM src T n lv) s s' := by
  intro n
  induction n with
  | zero => intro lv s s' _ r s1 e; cases e
  | succ n ih =>
    intro lv s s' hs
    unfold exM rexM
    by_cases h5 : lv = 5
    · rw [if_pos h5, if_pos h5]
      exact factor_sim hT (ih 5) (ih 0) (ex_pers n 0) hs
    · rw [if_neg h5, if_neg h5]
      refine SimAt.askL (SimAt.askR ?_)
      refine SimAt.bind (ih (lv + 1) s s' hs) ?_
      intro x x' t t' ht hl
      exact chain_sim hT (ih (lv + 1)) n x x' _ _ t t' ht (fun h => ⟨(hl h).2, by rw [hs.same (hl h).1]⟩)
end
end Go.Proofs.YtgelggdgbmldiaaDoor
