/-
  Layer 2: two runs of the parser's data, side by side: what is lost stays so; what is alike stays alike, or is lost. Written by an AI agent.
  Layer 2: two runs of the parser's data, side by side. Written by an AI agent.
  Layer 2: two runs of the parser's data, side by side: statements and functions. Written by an AI agent.
  Layer 2: the tokens of two sources, one behind the other. Written by an AI agent.
-/
import Derived.Test.YtgelggdgbmldiaaGreatDoorMbaq
import Derived.Test.YtgelggdgbmldiaaGreatDoorMbaa
namespace Go.Proofs.YtgelggdgbmldiaaGreatDoor
set_option linter.unusedVariables false
set_option linter.unusedSimpArgs false

/-- What is lost stays so, whatever is done. -/
structure LostP (T : List Tok) (Lost : PS → Prop) : Prop where
  next : ∀ s, Lost s → Lost (nextS T s)
  fail : ∀ s e, Lost s → (e = 20 ∨ e = 21) → Lost (failS T e s)
  dp : ∀ s d, Lost s → Lost { s with dp := d }
  node : ∀ s n, Lost s → Lost { s with nd := s.nd ++ [n] }

def Mono {α : Type} (Lost : PS → Prop) (m : PM α) : Prop := ∀ s r s1, Lost s → m s = some (r, s1) → Lost s1

section
variable {src : List UInt8} {T : List Tok} {Lost : PS → Prop}
theorem Mono.bind {α β : Type} {m : PM α} {f : α → PM β} (h : Mono Lost m) (k : ∀ a, Mono Lost (f a)) : Mono Lost (m >>= f) := by
  intro s r s1 hl e
  obtain ⟨a, t, e1, e2⟩ := bind_out e
  exact k a t r s1 (h s a t hl e1) e2
theorem Mono.ask {α β : Type} {g : PS → α} {f : α → PM β} (k : ∀ a, Mono Lost (f a)) : Mono Lost (ask g >>= f) := fun s r s1 hl e => k _ s r s1 hl e
theorem Mono.ret {α : Type} {a : α} : Mono Lost (pure a) := by
  intro s r s1 hl e
  have e := pure_out e
  injection e with e1 e2
  rw [e2]
  exact hl
theorem Mono.none {α : Type} : Mono Lost (fun _ => none : PM α) := by
  intro s r s1 hl e
  cases e
theorem Mono.both {α : Type} {c : Prop} [Decidable c] {m m' : PM α} (h : Mono Lost m) (k : Mono Lost m') : Mono Lost (if c then m else m') := by
  by_cases hc : c
  · rw [if_pos hc]; exact h
  · rw [if_neg hc]; exact k
theorem lost_want (L : LostP T Lost) (x : List UInt8) (s : PS) (h : Lost s) : Lost (wantS T x s) := by
  unfold wantS
  split
  · exact L.next s h
  · exact L.fail s 20 h (by decide)
theorem lost_name (L : LostP T Lost) (s : PS) (h : Lost s) : Lost (nameS T s) := by
  unfold nameS
  split
  · exact L.next s h
  · exact L.fail s 20 h (by decide)
theorem lost_open (L : LostP T Lost) (x : List UInt8) (s : PS) (h : Lost s) : Lost (openS T x s) := by
  unfold openS
  split
  · exact lost_want L x _ (L.fail s 21 h (by decide))
  · exact lost_want L x s h
theorem Mono.mod {β : Type} {g : PS → PS} {f : Unit → PM β} (h : ∀ s, Lost s → Lost (g s)) (k : Mono Lost (f ())) : Mono Lost (mod g >>= f) := fun s r s1 hl e => k (g s) r s1 (h s hl) e
theorem Mono.want (L : LostP T Lost) {β : Type} {x : List UInt8} {f : Unit → PM β} (k : Mono Lost (f ())) : Mono Lost (Go.Proofs.YtgelggdgbmldiaaGreatDoor.mod (wantS T x) >>= f) := Mono.mod (lost_want L x) k
theorem Mono.next (L : LostP T Lost) {β : Type} {f : Unit → PM β} (k : Mono Lost (f ())) : Mono Lost (Go.Proofs.YtgelggdgbmldiaaGreatDoor.mod (nextS T) >>= f) := Mono.mod L.next k
theorem Mono.name (L : LostP T Lost) {β : Type} {f : Unit → PM β} (k : Mono Lost (f ())) : Mono Lost (Go.Proofs.YtgelggdgbmldiaaGreatDoor.mod (nameS T) >>= f) := Mono.mod (lost_name L) k
theorem Mono.fail (L : LostP T Lost) {β : Type} {f : Unit → PM β} (k : Mono Lost (f ())) : Mono Lost (Go.Proofs.YtgelggdgbmldiaaGreatDoor.mod (failS T 20) >>= f) := Mono.mod (fun s h => L.fail s 20 h (by decide)) k
theorem Mono.deep (L : LostP T Lost) (d : Int) : Mono Lost (deepS d) := by
  intro s r s1 hl e
  unfold deepS at e
  split at e
  · injection e with e
    injection e with e1 e2
    rw [← e2]
    exact L.dp s _ hl
  · cases e
theorem Mono.node (L : LostP T Lost) (n : Nd) (l : List Int) : Mono Lost (nodeM n l) := by
  intro s r s1 hl e
  unfold nodeM at e
  split at e
  · injection e with e
    injection e with e1 e2
    rw [← e2]
    exact L.node s _ hl
  · cases e
theorem mono_open (L : LostP T Lost) (x : List UInt8) : Mono Lost (openM T x) := Mono.mod (lost_open L x) (Mono.deep L 1)
theorem mono_shut (L : LostP T Lost) (x : List UInt8) : Mono Lost (shutM T x) := Mono.mod (lost_want L x) (Mono.deep L (-1))
theorem mono_inside (L : LostP T Lost) {ex : PM Int} (hx : Mono Lost ex) (a b : List UInt8) : Mono Lost (insideM T ex a b) :=
  (mono_open L a).bind fun _ => hx.bind fun _ => (mono_shut L b).bind fun _ => Mono.ret
theorem mono_variable (L : LostP T Lost) {ex : PM Int} (hx : Mono Lost ex) (ln : Int) : Mono Lost (variableM T ex ln) :=
  Mono.ask fun _ => Mono.name L (Mono.ask fun _ => Mono.both ((mono_inside L hx _ _).bind fun _ => Mono.node L _ _) (Mono.node L _ _))
theorem mono_atom (L : LostP T Lost) {ex : PM Int} (hx : Mono Lost ex) : Mono Lost (atomM src T ex) :=
  Mono.ask fun _ => Mono.ask fun _ => Mono.both (Mono.next L (Mono.node L _ _)) (Mono.both (Mono.next L (Mono.node L _ _)) (Mono.ask fun _ => Mono.both (Mono.next L (Mono.node L _ _))
    (Mono.ask fun _ => Mono.both (Mono.next L ((mono_inside L hx _ _).bind fun _ => Mono.node L _ _)) (Mono.ask fun _ => Mono.both (mono_inside L hx _ _) (mono_variable L hx _)))))
theorem mono_factor (L : LostP T Lost) {fac ex : PM Int} (hf : Mono Lost fac) (hx : Mono Lost ex) : Mono Lost (factorM src T fac ex) :=
  Mono.ask fun _ => Mono.ask fun _ => Mono.ask fun _ => Mono.both ((mono_open L _).bind fun _ => hf.bind fun _ => (Mono.deep L _).bind fun _ => Mono.node L _ _)
    (Mono.ask fun _ => Mono.both ((mono_open L _).bind fun _ => hf.bind fun _ => (Mono.deep L _).bind fun _ => Mono.node L _ _) (mono_atom L hx))
theorem mono_chain (L : LostP T Lost) {lv : Nat} {sub : PM Int} (hs : Mono Lost sub) (ln : Int) : ∀ n x, Mono Lost (chainR T lv sub ln n x) := by
  intro n
  induction n with
  | zero => intro x; exact Mono.none
  | succ n ih =>
    intro x
    exact Mono.ask fun _ => Mono.both (Mono.ask fun _ => Mono.next L (hs.bind fun _ => (Mono.node L _ _).bind fun _ => Mono.both Mono.ret (ih _))) Mono.ret
theorem mono_ex (L : LostP T Lost) : ∀ n lv, Mono Lost (exM src T n lv) := by
  intro n
  induction n with
  | zero => intro lv; exact Mono.none
  | succ n ih =>
    intro lv
    exact Mono.both (mono_factor L (ih 5) (ih 0)) (Mono.ask fun _ => (ih (lv + 1)).bind fun _ => mono_chain L (ih (lv + 1)) _ _ _)
theorem mono_comma (L : LostP T Lost) {ex : PM Int} (hx : Mono Lost ex) : ∀ n l, Mono Lost (commaR T ex n l) := by
  intro n
  induction n with
  | zero => intro l; exact Mono.none
  | succ n ih => intro l; exact Mono.ask fun _ => Mono.both (Mono.next L (hx.bind fun _ => ih _)) Mono.ret
theorem mono_args (L : LostP T Lost) {ex : PM Int} (hx : Mono Lost ex) (N : Nat) : Mono Lost (argsM T N ex) :=
  Mono.ask fun _ => Mono.both Mono.ret (hx.bind fun _ => mono_comma L hx _ _)
theorem mono_call (L : LostP T Lost) {ex : PM Int} (hx : Mono Lost ex) (N : Nat) : Mono Lost (callM src T N ex) :=
  Mono.ask fun _ => Mono.ask fun _ => Mono.name L (Mono.want L ((mono_args L hx N).bind fun _ => Mono.want L (Mono.node L _ _)))
theorem mono_right (L : LostP T Lost) {ex : PM Int} (hx : Mono Lost ex) (N : Nat) : Mono Lost (rightM src T N ex) :=
  Mono.ask fun _ => Mono.ask fun _ => Mono.both (Mono.next L (Mono.node L _ _)) (Mono.ask fun _ => Mono.both (Mono.next L (Mono.want L (hx.bind fun _ => Mono.want L (Mono.node L _ _)))) (Mono.ask fun _ => Mono.both (mono_call L hx N) hx))
theorem mono_ended (L : LostP T Lost) (n : Nd) (l : List Int) : Mono Lost (endedM T n l) := Mono.want L (Mono.node L _ _)
theorem mono_change (L : LostP T Lost) {ex : PM Int} (hx : Mono Lost ex) (N : Nat) (ln : Int) : Mono Lost (changeM src T N ex ln) :=
  Mono.ask fun _ => Mono.name L (Mono.ask fun _ => Mono.both ((mono_open L _).bind fun _ => hx.bind fun _ => (mono_shut L _).bind fun _ => Mono.want L (hx.bind fun _ => mono_ended L _ _)) (Mono.want L ((mono_right L hx N).bind fun _ => mono_ended L _ _)))
theorem mono_choice (L : LostP T Lost) {ex bl : PM Int} (hx : Mono Lost ex) (hb : Mono Lost bl) (ln : Int) : Mono Lost (choiceM T ex bl ln) :=
  Mono.next L (hx.bind fun _ => hb.bind fun _ => Mono.ask fun _ => Mono.both (Mono.next L (hb.bind fun _ => Mono.node L _ _)) (Mono.node L _ _))
theorem mono_statement (L : LostP T Lost) {ex bl : PM Int} (hx : Mono Lost ex) (hb : Mono Lost bl) (N : Nat) : Mono Lost (statementM src T N ex bl) :=
  Mono.ask fun _ => Mono.ask fun _ => Mono.both (mono_choice L hx hb _) (Mono.ask fun _ => Mono.both (Mono.next L (hx.bind fun _ => hb.bind fun _ => Mono.node L _ _))
    (Mono.ask fun _ => Mono.both ((mono_call L hx N).bind fun _ => mono_ended L _ _) (Mono.ask fun _ => Mono.both (Mono.next L (hx.bind fun _ => mono_ended L _ _))
      (Mono.ask fun _ => Mono.both (Mono.next L (Mono.ask fun _ => Mono.both (mono_ended L _ _) (hx.bind fun _ => mono_ended L _ _)))
        (Mono.ask fun _ => Mono.both (Mono.next L (Mono.ask fun _ => Mono.name L (Mono.want L ((mono_right L hx N).bind fun _ => mono_ended L _ _)))) (mono_change L hx N _))))))
theorem mono_stms (L : LostP T Lost) {st : PM Int} (hs : Mono Lost st) : ∀ n l, Mono Lost (stmsR T st n l) := by
  intro n
  induction n with
  | zero => intro l; exact Mono.none
  | succ n ih => intro l; exact Mono.ask fun _ => Mono.both (hs.bind fun _ => ih _) Mono.ret
theorem mono_block (L : LostP T Lost) {st : PM Int} (hs : Mono Lost st) (N : Nat) : Mono Lost (blockM src T N st) :=
  Mono.ask fun _ => (mono_open L _).bind fun _ => (mono_stms L hs N _).bind fun _ => (mono_shut L _).bind fun _ => Mono.node L _ _
theorem mono_st (L : LostP T Lost) (N : Nat) : ∀ n, Mono Lost (stM src T N n) := by
  intro n
  induction n with
  | zero => exact Mono.none
  | succ n ih => exact mono_statement L (mono_ex L N 0) (mono_block L ih N) N
theorem mono_kind (L : LostP T Lost) : Mono Lost (kindM T) := Mono.ask fun _ => Mono.both (Mono.ask fun _ => Mono.next L Mono.ret) (Mono.fail L Mono.ret)
theorem mono_param (L : LostP T Lost) : Mono Lost (paramM T) := Mono.ask fun _ => Mono.name L ((mono_kind L).bind fun _ => Mono.ret)
theorem mono_params (L : LostP T Lost) : ∀ n l, Mono Lost (paramsR T n l) := by
  intro n
  induction n with
  | zero => intro l; exact Mono.none
  | succ n ih => intro l; exact Mono.ask fun _ => Mono.both (Mono.next L ((mono_param L).bind fun _ => ih _)) Mono.ret
theorem mono_paramsM (L : LostP T Lost) (N : Nat) : Mono Lost (paramsM T N) := Mono.ask fun _ => Mono.both Mono.ret ((mono_param L).bind fun _ => mono_params L _ _)
theorem mono_ret (L : LostP T Lost) : Mono Lost (retM T) := Mono.ask fun _ => Mono.both Mono.ret (mono_kind L)
theorem mono_function (L : LostP T Lost) (N : Nat) : Mono Lost (functionM src T N) :=
  Mono.ask fun _ => Mono.want L (Mono.ask fun _ => Mono.name L (Mono.want L ((mono_paramsM L N).bind fun _ => Mono.want L ((mono_ret L).bind fun _ => (mono_block L (mono_st L N N) N).bind fun _ => Mono.ret))))
theorem mono_fns (L : LostP T Lost) (N : Nat) : ∀ n l, Mono Lost (fnsR src T N n l) := by
  intro n
  induction n with
  | zero => intro l; exact Mono.none
  | succ n ih => intro l; exact Mono.ask fun _ => Mono.both ((mono_function L N).bind fun _ => ih _) Mono.ret
end
end Go.Proofs.YtgelggdgbmldiaaGreatDoor

namespace Go.Proofs.YtgelggdgbmldiaaGreatDoor
set_option linter.unusedVariables false
set_option linter.unusedSimpArgs false

/-- What two runs' states have in common: the one is as the other, a number moved; and lines as they may. -/
structure Prim (src src' : List UInt8) (T T' : List Tok) (Rel : PS → PS → Prop) (Lost : PS → Prop) (ph : Int → Int) (RL : Int → Int → Prop) : Prop where
  lost : LostP T Lost
  is_ : ∀ s s' ts, Rel s s' → isS T' ts s' = isS T ts s
  tok : ∀ s s', Rel s s' → (tokA T' s').k = (tokA T s).k ∧ (tokA T' s').x = (tokA T s).x
  calls : ∀ s s', Rel s s' → callsS T' s' = callsS T s ∨ (callsS T s = false ∧ (tokA T s).k = 3 ∧ Lost (nextS T s))
  line : ∀ s s', Rel s s' → RL (lineS src T s) (lineS src' T' s')
  er : ∀ s s', Rel s s' → decide (s'.er = 0) = decide (s.er = 0)
  next : ∀ s s', Rel s s' → Lost (nextS T s) ∨ Rel (nextS T s) (nextS T' s')
  fail : ∀ s s' e, Rel s s' → (e = 20 ∨ e = 21) → Lost (failS T e s) ∨ Rel (failS T e s) (failS T' e s')
  dp : ∀ s s', Rel s s' → s'.dp = s.dp ∧ ∀ d, Rel { s with dp := d } { s' with dp := d }
  node : ∀ s s' k ln ln' n x l, Rel s s' → RL ln ln' → s.nd.length < 100000 → Lost { s with nd := s.nd ++ [⟨k, ln, n, x, l⟩] } ∨ (s'.nd.length < 100000 ∧ (s'.nd.length : Int) = ph (s.nd.length : Int) ∧ Rel { s with nd := s.nd ++ [⟨k, ln, n, x, l⟩] } { s' with nd := s'.nd ++ [⟨k, ln', n, x, l.map ph⟩] })

def SqAt {α β : Type} (Rel : PS → PS → Prop) (Lost : PS → Prop) (RA : α → β → Prop) (m : PM α) (m' : PM β) (s s' : PS) : Prop := ∀ r s1, m s = some (r, s1) → Lost s1 ∨ ∃ r' s1', m' s' = some (r', s1') ∧ Rel s1 s1' ∧ RA r r'
def RI (ph : Int → Int) (r r' : Int) : Prop := r' = ph r
def RLs (ph : Int → Int) (l l' : List Int) : Prop := l' = l.map ph

section
variable {src src' : List UInt8} {T T' : List Tok} {Rel : PS → PS → Prop} {Lost : PS → Prop} {ph : Int → Int} {RL : Int → Int → Prop}
theorem SqAt.bind {α β γ δ : Type} {RA : α → β → Prop} {RB : γ → δ → Prop} {m : PM α} {m' : PM β} {f : α → PM γ} {f' : β → PM δ} {s s' : PS} (h : SqAt Rel Lost RA m m' s s') (hm : ∀ a, Mono Lost (f a)) (k : ∀ a a' t t', Rel t t' → RA a a' → SqAt Rel Lost RB (f a) (f' a') t t') : SqAt Rel Lost RB (m >>= f) (m' >>= f') s s' := by
  intro r s1 e
  obtain ⟨a, t, e1, e2⟩ := bind_out e
  rcases h a t e1 with hl | ⟨a', t', h1, h2, h3⟩
  · exact .inl (hm a t r s1 hl e2)
  · rcases k a a' t t' h2 h3 r s1 e2 with hl | ⟨r', s1', h4, h5, h6⟩
    · exact .inl hl
    · exact .inr ⟨r', s1', (bind_in h1).trans h4, h5, h6⟩
theorem SqAt.ret {α β : Type} {RA : α → β → Prop} {a : α} {a' : β} {s s' : PS} (h : Rel s s') (k : RA a a') : SqAt Rel Lost RA (pure a) (pure a') s s' := by
  intro r s1 e
  have e := pure_out e
  injection e with e1 e2
  subst e1; subst e2
  exact .inr ⟨a', s', rfl, h, k⟩
theorem SqAt.asks {α β γ δ : Type} {RB : γ → δ → Prop} {g : PS → α} {g' : PS → β} {f : α → PM γ} {f' : β → PM δ} {s s' : PS} (h : SqAt Rel Lost RB (f (g s)) (f' (g' s')) s s') : SqAt Rel Lost RB (ask g >>= f) (ask g' >>= f') s s' := h
theorem SqAt.both {γ δ : Type} {RB : γ → δ → Prop} {g g' : PS → PS} {f : Unit → PM γ} {f' : Unit → PM δ} {s s' : PS} (hg : Lost (g s) ∨ Rel (g s) (g' s')) (hm : Mono Lost (f ())) (k : Rel (g s) (g' s') → SqAt Rel Lost RB (f ()) (f' ()) (g s) (g' s')) : SqAt Rel Lost RB (mod g >>= f) (mod g' >>= f') s s' := by
  intro r s1 e
  rcases hg with hl | hr
  · exact .inl (hm (g s) r s1 hl e)
  · exact k hr r s1 e

theorem isS_k3 {ts : List (List UInt8)} {s : PS} (h : (tokA T s).k = 3) : isS T ts s = false := by
  unfold isS
  rw [h]
  rfl

variable (X : Prim src src' T T' Rel Lost ph RL)
include X
theorem SqAt.deep {γ δ : Type} {RB : γ → δ → Prop} {f : Unit → PM γ} {f' : Unit → PM δ} {s s' : PS} (d : Int) (hs : Rel s s') (k : ∀ t t', Rel t t' → SqAt Rel Lost RB (f ()) (f' ()) t t') : SqAt Rel Lost RB (deepS d >>= f) (deepS d >>= f') s s' := by
  intro r s1 e
  obtain ⟨u, t, e1, e2⟩ := bind_out e
  unfold deepS at e1
  split at e1
  · rename_i hl
    injection e1 with e1
    injection e1 with e3 e4
    subst e4
    obtain ⟨h1, h2⟩ := X.dp s s' hs
    have h3 := h2 (s.dp + d)
    rcases k _ _ h3 r s1 e2 with hl2 | ⟨r', s1', h4, h5⟩
    · exact .inl hl2
    · refine .inr ⟨r', s1', ?_, h5⟩
      exact (bind_in (m := deepS d) (show deepS d s' = some ((), { s' with dp := s.dp + d }) from by rw [← h1]; exact if_pos (by rw [h1]; exact hl))).trans h4
  · cases e1
theorem SqAt.node {k n : Int} {x : List UInt8} {ln ln' : Int} {l l' : List Int} {s s' : PS} (hs : Rel s s') (hln : RL ln ln') (hl : l' = l.map ph) (d d' : List Int) : SqAt Rel Lost (RI ph) (nodeM ⟨k, ln, n, x, d⟩ l) (nodeM ⟨k, ln', n, x, d'⟩ l') s s' := by
  subst hl
  intro r s1 e
  unfold nodeM at e
  split at e
  · rename_i hb
    injection e with e
    injection e with e1 e2
    subst e1; subst e2
    rcases X.node s s' k ln ln' n x l hs hln hb with h | ⟨h1, h2, h3⟩
    · exact .inl h
    · exact .inr ⟨_, _, if_pos h1, h3, h2⟩
  · cases e
theorem rel_want {s s' : PS} (hs : Rel s s') (x : List UInt8) : Lost (wantS T x s) ∨ Rel (wantS T x s) (wantS T' x s') := by
  unfold wantS
  rw [X.is_ s s' _ hs]
  by_cases hb : isS T [x] s = true
  · rw [if_pos hb, if_pos hb]
    exact X.next s s' hs
  · rw [if_neg hb, if_neg hb]
    exact X.fail s s' 20 hs (by decide)
theorem rel_name {s s' : PS} (hs : Rel s s') : Lost (nameS T s) ∨ Rel (nameS T s) (nameS T' s') := by
  unfold nameS
  rw [(X.tok s s' hs).1]
  by_cases hb : (tokA T s).k = 3
  · rw [if_pos hb, if_pos hb]
    exact X.next s s' hs
  · rw [if_neg hb, if_neg hb]
    exact X.fail s s' 20 hs (by decide)
theorem rel_nameX {s s' : PS} (hs : Rel s s') : nameX T' s' = nameX T s := by
  unfold nameX
  rw [(X.tok s s' hs).1, (X.tok s s' hs).2]
theorem rel_open {s s' : PS} (hs : Rel s s') (x : List UInt8) : Lost (openS T x s) ∨ Rel (openS T x s) (openS T' x s') := by
  unfold openS
  rw [X.is_ s s' _ hs, (X.dp s s' hs).1]
  by_cases hb : (isS T [x] s && decide (16 ≤ s.dp)) = true
  · rw [if_pos hb, if_pos hb]
    rcases X.fail s s' 21 hs (by decide) with h | h
    · exact .inl (lost_want X.lost x _ h)
    · exact rel_want X h x
  · rw [if_neg hb, if_neg hb]
    exact rel_want X hs x
theorem SqAt.opens {γ δ : Type} {RB : γ → δ → Prop} {f : Unit → PM γ} {f' : Unit → PM δ} {s s' : PS} (hs : Rel s s') (x : List UInt8) (hm : Mono Lost (f ())) (k : ∀ t t', Rel t t' → SqAt Rel Lost RB (f ()) (f' ()) t t') : SqAt Rel Lost RB (openM T x >>= f) (openM T' x >>= f') s s' := by
  have A : (openM T x >>= f) = (mod (openS T x) >>= fun _ => deepS 1 >>= f) := bind_assoc _ _ _
  have A' : (openM T' x >>= f') = (mod (openS T' x) >>= fun _ => deepS 1 >>= f') := bind_assoc _ _ _
  rw [A, A']
  exact SqAt.both (rel_open X hs x) ((Mono.deep X.lost 1).bind fun _ => hm) (fun h => SqAt.deep X 1 h k)
theorem SqAt.shuts {γ δ : Type} {RB : γ → δ → Prop} {f : Unit → PM γ} {f' : Unit → PM δ} {s s' : PS} (hs : Rel s s') (x : List UInt8) (hm : Mono Lost (f ())) (k : ∀ t t', Rel t t' → SqAt Rel Lost RB (f ()) (f' ()) t t') : SqAt Rel Lost RB (shutM T x >>= f) (shutM T' x >>= f') s s' := by
  have A : (shutM T x >>= f) = (mod (wantS T x) >>= fun _ => deepS (-1) >>= f) := bind_assoc _ _ _
  have A' : (shutM T' x >>= f') = (mod (wantS T' x) >>= fun _ => deepS (-1) >>= f') := bind_assoc _ _ _
  rw [A, A']
  exact SqAt.both (rel_want X hs x) ((Mono.deep X.lost (-1)).bind fun _ => hm) (fun h => SqAt.deep X (-1) h k)

def SqF (X : Prim src src' T T' Rel Lost ph RL) (m m' : PM Int) : Prop := ∀ s s', Rel s s' → SqAt Rel Lost (RI ph) m m' s s'

theorem sq_inside {ex ex' : PM Int} (hx : SqF X ex ex') (hmx : Mono Lost ex) (a b : List UInt8) {s s' : PS} (hs : Rel s s') : SqAt Rel Lost (RI ph) (insideM T ex a b) (insideM T' ex' a b) s s' := by
  unfold insideM
  refine SqAt.opens X hs a (hmx.bind fun _ => (mono_shut X.lost b).bind fun _ => Mono.ret) ?_
  intro t t' ht
  refine SqAt.bind (hx t t' ht) (fun _ => (mono_shut X.lost b).bind fun _ => Mono.ret) ?_
  intro y y' u u' hu hy
  refine SqAt.shuts X hu b Mono.ret ?_
  intro v v' hv
  exact SqAt.ret hv hy
theorem sq_variable {ex ex' : PM Int} (hx : SqF X ex ex') (hmx : Mono Lost ex) {ln ln' : Int} (hln : RL ln ln') {s s' : PS} (hs : Rel s s') : SqAt Rel Lost (RI ph) (variableM T ex ln) (variableM T' ex' ln') s s' := by
  unfold variableM
  refine SqAt.asks ?_
  rw [rel_nameX X hs]
  refine SqAt.both (rel_name X hs) (Mono.ask fun _ => Mono.both ((mono_inside X.lost hmx _ _).bind fun _ => Mono.node X.lost _ _) (Mono.node X.lost _ _)) ?_
  intro ht
  refine SqAt.asks ?_
  rw [X.is_ _ _ _ ht]
  by_cases hb : isS T [[91]] (nameS T s) = true
  · rw [if_pos hb, if_pos hb]
    refine SqAt.bind (sq_inside X hx hmx _ _ ht) (fun _ => Mono.node X.lost _ _) ?_
    intro y y' u u' hu hy
    exact SqAt.node X hu hln (by rw [show y' = ph y from hy]; rfl) _ _
  · rw [if_neg hb, if_neg hb]
    exact SqAt.node X ht hln rfl _ _
theorem sq_nextnode {k n : Int} {x : List UInt8} {ln ln' : Int} (hln : RL ln ln') {s s' : PS} (hs : Rel s s') : SqAt Rel Lost (RI ph) (do mod (nextS T); nodeM ⟨k, ln, n, x, []⟩ []) (do mod (nextS T'); nodeM ⟨k, ln', n, x, []⟩ []) s s' :=
  SqAt.both (X.next s s' hs) (Mono.node X.lost _ _) (fun h => SqAt.node X h hln rfl _ _)
theorem sq_atom {ex ex' : PM Int} (hx : SqF X ex ex') (hmx : Mono Lost ex) : SqF X (atomM src T ex) (atomM src' T' ex') := by
  intro s s' hs
  unfold atomM
  refine SqAt.asks (SqAt.asks ?_)
  have hln := X.line s s' hs
  rw [(X.tok s s' hs).1, (X.tok s s' hs).2]
  by_cases h1 : (tokA T s).k = 1
  · rw [if_pos h1, if_pos h1]
    exact sq_nextnode X hln hs
  rw [if_neg h1, if_neg h1]
  by_cases h2 : (tokA T s).k = 2
  · rw [if_pos h2, if_pos h2]
    exact sq_nextnode X hln hs
  rw [if_neg h2, if_neg h2]
  refine SqAt.asks ?_
  rw [X.is_ _ _ _ hs]
  by_cases hb : isS T [[116, 114, 117, 101], [102, 97, 108, 115, 101]] s = true
  · rw [if_pos hb, if_pos hb]
    exact sq_nextnode X hln hs
  rw [if_neg hb, if_neg hb]
  refine SqAt.asks ?_
  rw [X.is_ _ _ _ hs]
  by_cases hl : isS T [[108, 101, 110]] s = true
  · rw [if_pos hl, if_pos hl]
    refine SqAt.both (X.next s s' hs) ((mono_inside X.lost hmx _ _).bind fun _ => Mono.node X.lost _ _) ?_
    intro ht
    refine SqAt.bind (sq_inside X hx hmx _ _ ht) (fun _ => Mono.node X.lost _ _) ?_
    intro y y' u u' hu hy
    exact SqAt.node X hu hln (by rw [show y' = ph y from hy]; rfl) _ _
  rw [if_neg hl, if_neg hl]
  refine SqAt.asks ?_
  rw [X.is_ _ _ _ hs]
  by_cases hp : isS T [[40]] s = true
  · rw [if_pos hp, if_pos hp]
    exact sq_inside X hx hmx _ _ hs
  rw [if_neg hp, if_neg hp]
  exact sq_variable X hx hmx hln hs
theorem sq_sign {fac fac' : PM Int} (hf : SqF X fac fac') (hmf : Mono Lost fac) (a : List UInt8) {k : Int} {ln ln' : Int} (hln : RL ln ln') {s s' : PS} (hs : Rel s s') : SqAt Rel Lost (RI ph) (do openM T a; let y ← fac; deepS (-1); nodeM ⟨k, ln, 0, [], []⟩ [y]) (do openM T' a; let y ← fac'; deepS (-1); nodeM ⟨k, ln', 0, [], []⟩ [y]) s s' := by
  refine SqAt.opens X hs a (hmf.bind fun _ => (Mono.deep X.lost _).bind fun _ => Mono.node X.lost _ _) ?_
  intro t t' ht
  refine SqAt.bind (hf t t' ht) (fun _ => (Mono.deep X.lost _).bind fun _ => Mono.node X.lost _ _) ?_
  intro y y' u u' hu hy
  refine SqAt.deep X (-1) hu ?_
  intro v v' hv
  exact SqAt.node X hv hln (by rw [show y' = ph y from hy]; rfl) _ _
theorem sq_factor {fac fac' ex ex' : PM Int} (hf : SqF X fac fac') (hmf : Mono Lost fac) (hx : SqF X ex ex') (hmx : Mono Lost ex) : SqF X (factorM src T fac ex) (factorM src' T' fac' ex') := by
  intro s s' hs
  unfold factorM
  refine SqAt.asks (SqAt.asks (SqAt.asks ?_))
  have hln := X.line s s' hs
  rw [(X.tok s s' hs).2, X.is_ _ _ _ hs]
  by_cases h1 : isS T [[33]] s = true
  · rw [if_pos h1, if_pos h1]
    exact sq_sign X hf hmf _ hln hs
  rw [if_neg h1, if_neg h1]
  refine SqAt.asks ?_
  rw [X.is_ _ _ _ hs]
  by_cases h2 : isS T [[45]] s = true
  · rw [if_pos h2, if_pos h2]
    exact sq_sign X hf hmf _ hln hs
  rw [if_neg h2, if_neg h2]
  exact sq_atom X hx hmx s s' hs
theorem sq_chain {lv : Nat} {sub sub' : PM Int} (hsub : SqF X sub sub') (hm : Mono Lost sub) {ln ln' : Int} (hln : RL ln ln') : ∀ n (x x' : Int) s s', Rel s s' → x' = ph x → SqAt Rel Lost (RI ph) (chainR T lv sub ln n x) (chainR T' lv sub' ln' n x') s s' := by
  intro n
  induction n with
  | zero => intro x x' s s' _ _ r s1 e; cases e
  | succ n ih =>
    intro x x' s s' hs hx
    unfold chainR
    refine SqAt.asks ?_
    rw [X.is_ _ _ _ hs]
    by_cases hb : isS T (signsL lv) s = true
    · rw [if_pos hb, if_pos hb]
      refine SqAt.asks ?_
      rw [(X.tok s s' hs).2]
      have hmr : ∀ z, Mono Lost (if lv = 2 then pure z else chainR T lv sub ln n z) := fun z => Mono.both Mono.ret (mono_chain X.lost hm ln n z)
      refine SqAt.both (X.next s s' hs) (hm.bind fun _ => (Mono.node X.lost _ _).bind fun _ => hmr _) ?_
      intro ht
      refine SqAt.bind (hsub _ _ ht) (fun _ => (Mono.node X.lost _ _).bind fun _ => hmr _) ?_
      intro y y' u u' hu hy
      refine SqAt.bind (SqAt.node X hu hln (by rw [show y' = ph y from hy, hx]; rfl) _ _) (fun _ => hmr _) ?_
      intro z z' v v' hv hz
      by_cases h2 : lv = 2
      · rw [if_pos h2, if_pos h2]
        exact SqAt.ret hv hz
      · rw [if_neg h2, if_neg h2]
        exact ih z z' v v' hv hz
    · rw [if_neg hb, if_neg hb]
      exact SqAt.ret hs hx
theorem sq_ex : ∀ n lv, SqF X (exM src T n lv) (exM src' T' n lv) := by
  intro n
  induction n with
  | zero => intro lv s s' _ r s1 e; cases e
  | succ n ih =>
    intro lv s s' hs
    unfold exM
    by_cases h5 : lv = 5
    · rw [if_pos h5, if_pos h5]
      exact sq_factor X (ih 5) (mono_ex X.lost n 5) (ih 0) (mono_ex X.lost n 0) s s' hs
    · rw [if_neg h5, if_neg h5]
      refine SqAt.asks ?_
      have hln := X.line s s' hs
      refine SqAt.bind (ih (lv + 1) s s' hs) (fun _ => mono_chain X.lost (mono_ex X.lost n (lv + 1)) _ _ _) ?_
      intro x x' t t' ht hx
      exact sq_chain X (ih (lv + 1)) (mono_ex X.lost n (lv + 1)) hln n x x' t t' ht hx

theorem sq_comma {ex ex' : PM Int} (hx : SqF X ex ex') (hmx : Mono Lost ex) : ∀ n (l l' : List Int) s s', Rel s s' → l' = l.map ph → SqAt Rel Lost (RLs ph) (commaR T ex n l) (commaR T' ex' n l') s s' := by
  intro n
  induction n with
  | zero => intro l l' s s' _ _ r s1 e; cases e
  | succ n ih =>
    intro l l' s s' hs hl
    unfold commaR
    refine SqAt.asks ?_
    rw [X.is_ _ _ _ hs]
    by_cases hb : isS T [[44]] s = true
    · rw [if_pos hb, if_pos hb]
      refine SqAt.both (X.next s s' hs) (hmx.bind fun _ => mono_comma X.lost hmx _ _) ?_
      intro ht
      refine SqAt.bind (hx _ _ ht) (fun _ => mono_comma X.lost hmx _ _) ?_
      intro y y' u u' hu hy
      exact ih _ _ u u' hu (by rw [hl, show y' = ph y from hy, List.map_append]; rfl)
    · rw [if_neg hb, if_neg hb]
      exact SqAt.ret hs hl
theorem sq_args {ex ex' : PM Int} (hx : SqF X ex ex') (hmx : Mono Lost ex) (N : Nat) {s s' : PS} (hs : Rel s s') : SqAt Rel Lost (RLs ph) (argsM T N ex) (argsM T' N ex') s s' := by
  unfold argsM
  refine SqAt.asks ?_
  rw [X.is_ _ _ _ hs]
  by_cases hb : isS T [[41]] s = true
  · rw [if_pos hb, if_pos hb]
    exact SqAt.ret hs rfl
  · rw [if_neg hb, if_neg hb]
    refine SqAt.bind (hx _ _ hs) (fun _ => mono_comma X.lost hmx _ _) ?_
    intro y y' u u' hu hy
    exact sq_comma X hx hmx N _ _ u u' hu (by rw [show y' = ph y from hy]; rfl)
theorem sq_call {ex ex' : PM Int} (hx : SqF X ex ex') (hmx : Mono Lost ex) (N : Nat) : SqF X (callM src T N ex) (callM src' T' N ex') := by
  intro s s' hs
  unfold callM
  refine SqAt.asks (SqAt.asks ?_)
  have hln := X.line s s' hs
  rw [rel_nameX X hs]
  have hm3 : ∀ l, Mono Lost (do mod (wantS T [41]); nodeM ⟨21, lineS src T s, 0, nameX T s, []⟩ l : PM Int) := fun l => Mono.want X.lost (Mono.node X.lost _ _)
  refine SqAt.both (rel_name X hs) (Mono.want X.lost ((mono_args X.lost hmx N).bind fun _ => hm3 _)) ?_
  intro ht
  refine SqAt.both (rel_want X ht _) ((mono_args X.lost hmx N).bind fun _ => hm3 _) ?_
  intro hu
  refine SqAt.bind (sq_args X hx hmx N hu) (fun _ => hm3 _) ?_
  intro l l' v v' hv hl
  refine SqAt.both (rel_want X hv _) (Mono.node X.lost _ _) ?_
  intro hz
  exact SqAt.node X hz hln hl _ _
theorem ex_name_lost : ∀ n lv s r s1, (tokA T s).k = 3 → Lost (nextS T s) → exM src T n lv s = some (r, s1) → Lost s1 := by
  intro n
  induction n with
  | zero => intro lv s r s1 _ _ e; cases e
  | succ n ih =>
    intro lv s r s1 hk hl e
    unfold exM at e
    by_cases h5 : lv = 5
    · rw [if_pos h5] at e
      unfold factorM at e
      have e : (if isS T [[33]] s then _ else _ : PM Int) s = some (r, s1) := e
      rw [isS_k3 hk, if_neg (by decide)] at e
      have e : (if isS T [[45]] s then _ else _ : PM Int) s = some (r, s1) := e
      rw [isS_k3 hk, if_neg (by decide)] at e
      unfold atomM at e
      have e : (if (tokA T s).k = 1 then _ else _ : PM Int) s = some (r, s1) := e
      rw [hk, if_neg (by decide), if_neg (by decide)] at e
      have e : (if isS T [[116, 114, 117, 101], [102, 97, 108, 115, 101]] s then _ else _ : PM Int) s = some (r, s1) := e
      rw [isS_k3 hk, if_neg (by decide)] at e
      have e : (if isS T [[108, 101, 110]] s then _ else _ : PM Int) s = some (r, s1) := e
      rw [isS_k3 hk, if_neg (by decide)] at e
      have e : (if isS T [[40]] s then _ else _ : PM Int) s = some (r, s1) := e
      rw [isS_k3 hk, if_neg (by decide)] at e
      unfold variableM at e
      have e : (do let b ← ask (isS T [[91]])
                   if b then (do
                     let y ← insideM T (exM src T n 0) [91] [93]
                     nodeM ⟨5, lineS src T s, 0, nameX T s, []⟩ [y])
                   else nodeM ⟨4, lineS src T s, 0, nameX T s, []⟩ [] : PM Int) (nameS T s) = some (r, s1) := e
      have hn : nameS T s = nextS T s := if_pos hk
      rw [hn] at e
      exact (Mono.ask fun _ => Mono.both ((mono_inside X.lost (mono_ex X.lost n 0) _ _).bind fun _ => Mono.node X.lost _ _) (Mono.node X.lost _ _)) _ r s1 hl e
    · rw [if_neg h5] at e
      obtain ⟨x, t, e1, e2⟩ := bind_out (show (exM src T n (lv + 1) >>= fun x => chainR T lv (exM src T n (lv + 1)) (lineS src T s) n x) s = some (r, s1) from e)
      exact mono_chain X.lost (mono_ex X.lost n (lv + 1)) _ _ _ t r s1 (ih (lv + 1) s x t hk hl e1) e2
end
end Go.Proofs.YtgelggdgbmldiaaGreatDoor

namespace Go.Proofs.YtgelggdgbmldiaaGreatDoor
set_option linter.unusedVariables false
set_option linter.unusedSimpArgs false

def RF (ph : Int → Int) (RL : Int → Int → Prop) (f f' : Fnc) : Prop := f'.s = f.s ∧ RL f.ln f'.ln ∧ f'.ps = f.ps ∧ f'.ret = f.ret ∧ f'.body = ph f.body
def RFs (ph : Int → Int) (RL : Int → Int → Prop) : List Fnc → List Fnc → Prop
  | [], [] => True
  | f :: l, f' :: l' => RF ph RL f f' ∧ RFs ph RL l l'
  | _, _ => False
theorem RFs.more {ph : Int → Int} {RL : Int → Int → Prop} : ∀ {l l' : List Fnc} {f f' : Fnc}, RFs ph RL l l' → RF ph RL f f' → RFs ph RL (l ++ [f]) (l' ++ [f'])
  | [], [], _, _, _, hf => ⟨hf, trivial⟩
  | _ :: l, _ :: l', _, _, h, hf => ⟨h.1, RFs.more h.2 hf⟩
  | [], _ :: _, _, _, h, _ => h.elim
  | _ :: _, [], _, _, h, _ => h.elim

section
variable {src src' : List UInt8} {T T' : List Tok} {Rel : PS → PS → Prop} {Lost : PS → Prop} {ph : Int → Int} {RL : Int → Int → Prop}
variable (X : Prim src src' T T' Rel Lost ph RL)
include X
theorem sq_right {ex ex' : PM Int} (hx : SqF X ex ex') (hmx : Mono Lost ex) (hnl : ∀ s r s1, (tokA T s).k = 3 → Lost (nextS T s) → ex s = some (r, s1) → Lost s1) (N : Nat) : SqF X (rightM src T N ex) (rightM src' T' N ex') := by
  intro s s' hs
  unfold rightM
  refine SqAt.asks ?_
  have hln := X.line s s' hs
  refine SqAt.asks ?_
  rw [X.is_ _ _ _ hs]
  by_cases h1 : isS T [[105, 110, 112, 117, 116]] s = true
  · rw [if_pos h1, if_pos h1]
    exact sq_nextnode X hln hs
  rw [if_neg h1, if_neg h1]
  refine SqAt.asks ?_
  rw [X.is_ _ _ _ hs]
  by_cases h2 : isS T [[110, 101, 119]] s = true
  · rw [if_pos h2, if_pos h2]
    refine SqAt.both (X.next s s' hs) (Mono.want X.lost (hmx.bind fun _ => Mono.want X.lost (Mono.node X.lost _ _))) ?_
    intro ht
    refine SqAt.both (rel_want X ht _) (hmx.bind fun _ => Mono.want X.lost (Mono.node X.lost _ _)) ?_
    intro hu
    refine SqAt.bind (hx _ _ hu) (fun _ => Mono.want X.lost (Mono.node X.lost _ _)) ?_
    intro y y' v v' hv hy
    refine SqAt.both (rel_want X hv _) (Mono.node X.lost _ _) ?_
    intro hz
    exact SqAt.node X hz hln (by rw [show y' = ph y from hy]; rfl) _ _
  rw [if_neg h2, if_neg h2]
  refine SqAt.asks ?_
  rcases X.calls s s' hs with h3 | ⟨h3, hk, hl⟩
  · rw [h3]
    by_cases hc : callsS T s = true
    · rw [if_pos hc, if_pos hc]
      exact sq_call X hx hmx N s s' hs
    · rw [if_neg hc, if_neg hc]
      exact hx s s' hs
  · rw [h3, if_neg (by decide)]
    intro r s1 e
    exact .inl (hnl s r s1 hk hl e)
theorem sq_ended {k n : Int} {x : List UInt8} {ln ln' : Int} {l l' : List Int} {s s' : PS} (hs : Rel s s') (hln : RL ln ln') (hl : l' = l.map ph) : SqAt Rel Lost (RI ph) (endedM T ⟨k, ln, n, x, []⟩ l) (endedM T' ⟨k, ln', n, x, []⟩ l') s s' :=
  SqAt.both (rel_want X hs _) (Mono.node X.lost _ _) (fun h => SqAt.node X h hln hl _ _)
theorem sq_change {ex ex' : PM Int} (hx : SqF X ex ex') (hmx : Mono Lost ex) (hnl : ∀ s r s1, (tokA T s).k = 3 → Lost (nextS T s) → ex s = some (r, s1) → Lost s1) (N : Nat) {ln ln' : Int} (hln : RL ln ln') {s s' : PS} (hs : Rel s s') : SqAt Rel Lost (RI ph) (changeM src T N ex ln) (changeM src' T' N ex' ln') s s' := by
  unfold changeM
  refine SqAt.asks ?_
  rw [rel_nameX X hs]
  refine SqAt.both (rel_name X hs) (Mono.ask fun _ => Mono.both ((mono_open X.lost _).bind fun _ => hmx.bind fun _ => (mono_shut X.lost _).bind fun _ => Mono.want X.lost (hmx.bind fun _ => mono_ended X.lost _ _)) (Mono.want X.lost ((mono_right X.lost hmx N).bind fun _ => mono_ended X.lost _ _))) ?_
  intro ht
  refine SqAt.asks ?_
  rw [X.is_ _ _ _ ht]
  by_cases hb : isS T [[91]] (nameS T s) = true
  · rw [if_pos hb, if_pos hb]
    refine SqAt.opens X ht _ (hmx.bind fun _ => (mono_shut X.lost _).bind fun _ => Mono.want X.lost (hmx.bind fun _ => mono_ended X.lost _ _)) ?_
    intro u u' hu
    refine SqAt.bind (hx _ _ hu) (fun _ => (mono_shut X.lost _).bind fun _ => Mono.want X.lost (hmx.bind fun _ => mono_ended X.lost _ _)) ?_
    intro y y' v v' hv hy
    refine SqAt.shuts X hv _ (Mono.want X.lost (hmx.bind fun _ => mono_ended X.lost _ _)) ?_
    intro z z' hz
    refine SqAt.both (rel_want X hz _) (hmx.bind fun _ => mono_ended X.lost _ _) ?_
    intro hq
    refine SqAt.bind (hx _ _ hq) (fun _ => mono_ended X.lost _ _) ?_
    intro g g' p p' hp hg
    exact sq_ended X hp hln (by rw [show y' = ph y from hy, show g' = ph g from hg]; rfl)
  · rw [if_neg hb, if_neg hb]
    refine SqAt.both (rel_want X ht _) ((mono_right X.lost hmx N).bind fun _ => mono_ended X.lost _ _) ?_
    intro hu
    refine SqAt.bind (sq_right X hx hmx hnl N _ _ hu) (fun _ => mono_ended X.lost _ _) ?_
    intro g g' p p' hp hg
    exact sq_ended X hp hln (by rw [show g' = ph g from hg]; rfl)
theorem sq_choice {ex ex' bl bl' : PM Int} (hx : SqF X ex ex') (hmx : Mono Lost ex) (hb : SqF X bl bl') (hmb : Mono Lost bl) {ln ln' : Int} (hln : RL ln ln') {s s' : PS} (hs : Rel s s') : SqAt Rel Lost (RI ph) (choiceM T ex bl ln) (choiceM T' ex' bl' ln') s s' := by
  unfold choiceM
  have hm1 : ∀ x y, Mono Lost (do let b ← ask (isS T [[101, 108, 115, 101]]); if b then (do mod (nextS T); let z ← bl; nodeM ⟨15, ln, 0, [], []⟩ [x, y, z]) else nodeM ⟨15, ln, 0, [], []⟩ [x, y] : PM Int) := fun x y => Mono.ask fun _ => Mono.both (Mono.next X.lost (hmb.bind fun _ => Mono.node X.lost _ _)) (Mono.node X.lost _ _)
  refine SqAt.both (X.next s s' hs) (hmx.bind fun _ => hmb.bind fun _ => hm1 _ _) ?_
  intro ht
  refine SqAt.bind (hx _ _ ht) (fun _ => hmb.bind fun _ => hm1 _ _) ?_
  intro x x' u u' hu hx'
  refine SqAt.bind (hb _ _ hu) (fun _ => hm1 _ _) ?_
  intro y y' v v' hv hy
  refine SqAt.asks ?_
  rw [X.is_ _ _ _ hv]
  by_cases h1 : isS T [[101, 108, 115, 101]] v = true
  · rw [if_pos h1, if_pos h1]
    refine SqAt.both (X.next _ _ hv) (hmb.bind fun _ => Mono.node X.lost _ _) ?_
    intro hq
    refine SqAt.bind (hb _ _ hq) (fun _ => Mono.node X.lost _ _) ?_
    intro z z' p p' hp hz
    exact SqAt.node X hp hln (by rw [show y' = ph y from hy, show x' = ph x from hx', show z' = ph z from hz]; rfl) _ _
  · rw [if_neg h1, if_neg h1]
    exact SqAt.node X hv hln (by rw [show y' = ph y from hy, show x' = ph x from hx']; rfl) _ _
theorem sq_statement {ex ex' bl bl' : PM Int} (hx : SqF X ex ex') (hmx : Mono Lost ex) (hnl : ∀ s r s1, (tokA T s).k = 3 → Lost (nextS T s) → ex s = some (r, s1) → Lost s1) (hb : SqF X bl bl') (hmb : Mono Lost bl) (N : Nat) : SqF X (statementM src T N ex bl) (statementM src' T' N ex' bl') := by
  intro s s' hs
  unfold statementM
  refine SqAt.asks ?_
  have hln := X.line s s' hs
  refine SqAt.asks ?_
  rw [X.is_ _ _ _ hs]
  by_cases h1 : isS T [[105, 102]] s = true
  · rw [if_pos h1, if_pos h1]
    exact sq_choice X hx hmx hb hmb hln hs
  rw [if_neg h1, if_neg h1]
  refine SqAt.asks ?_
  rw [X.is_ _ _ _ hs]
  by_cases h2 : isS T [[119, 104, 105, 108, 101]] s = true
  · rw [if_pos h2, if_pos h2]
    refine SqAt.both (X.next s s' hs) (hmx.bind fun _ => hmb.bind fun _ => Mono.node X.lost _ _) ?_
    intro ht
    refine SqAt.bind (hx _ _ ht) (fun _ => hmb.bind fun _ => Mono.node X.lost _ _) ?_
    intro x x' u u' hu hx'
    refine SqAt.bind (hb _ _ hu) (fun _ => Mono.node X.lost _ _) ?_
    intro y y' v v' hv hy
    exact SqAt.node X hv hln (by rw [show y' = ph y from hy, show x' = ph x from hx']; rfl) _ _
  rw [if_neg h2, if_neg h2]
  refine SqAt.asks ?_
  -- what stands behind the look whether it is a call
  have rest : SqAt Rel Lost (RI ph) (do
        let b ← ask (isS T [[112, 114, 105, 110, 116]])
        if b then (do
          mod (nextS T)
          let x ← ex
          endedM T ⟨14, lineS src T s, 0, [], []⟩ [x])
        else do
          let b ← ask (isS T [[114, 101, 116, 117, 114, 110]])
          if b then (do
            mod (nextS T)
            let b ← ask (isS T [[59]])
            if b then endedM T ⟨17, lineS src T s, 0, [], []⟩ [] else do
              let x ← ex
              endedM T ⟨17, lineS src T s, 0, [], []⟩ [x])
          else do
            let b ← ask (isS T [[108, 101, 116]])
            if b then (do
              mod (nextS T)
              let x ← ask (nameX T)
              mod (nameS T)
              mod (wantS T [61])
              let y ← rightM src T N ex
              endedM T ⟨10, lineS src T s, 0, x, []⟩ [y])
            else changeM src T N ex (lineS src T s) : PM Int) (do
        let b ← ask (isS T' [[112, 114, 105, 110, 116]])
        if b then (do
          mod (nextS T')
          let x ← ex'
          endedM T' ⟨14, lineS src' T' s', 0, [], []⟩ [x])
        else do
          let b ← ask (isS T' [[114, 101, 116, 117, 114, 110]])
          if b then (do
            mod (nextS T')
            let b ← ask (isS T' [[59]])
            if b then endedM T' ⟨17, lineS src' T' s', 0, [], []⟩ [] else do
              let x ← ex'
              endedM T' ⟨17, lineS src' T' s', 0, [], []⟩ [x])
          else do
            let b ← ask (isS T' [[108, 101, 116]])
            if b then (do
              mod (nextS T')
              let x ← ask (nameX T')
              mod (nameS T')
              mod (wantS T' [61])
              let y ← rightM src' T' N ex'
              endedM T' ⟨10, lineS src' T' s', 0, x, []⟩ [y])
            else changeM src' T' N ex' (lineS src' T' s') : PM Int) s s' := by
    refine SqAt.asks ?_
    rw [X.is_ _ _ _ hs]
    by_cases h3 : isS T [[112, 114, 105, 110, 116]] s = true
    · rw [if_pos h3, if_pos h3]
      refine SqAt.both (X.next s s' hs) (hmx.bind fun _ => mono_ended X.lost _ _) ?_
      intro ht
      refine SqAt.bind (hx _ _ ht) (fun _ => mono_ended X.lost _ _) ?_
      intro x x' u u' hu hx'
      exact sq_ended X hu hln (by rw [show x' = ph x from hx']; rfl)
    rw [if_neg h3, if_neg h3]
    refine SqAt.asks ?_
    rw [X.is_ _ _ _ hs]
    by_cases h4 : isS T [[114, 101, 116, 117, 114, 110]] s = true
    · rw [if_pos h4, if_pos h4]
      refine SqAt.both (X.next s s' hs) (Mono.ask fun _ => Mono.both (mono_ended X.lost _ _) (hmx.bind fun _ => mono_ended X.lost _ _)) ?_
      intro ht
      refine SqAt.asks ?_
      rw [X.is_ _ _ _ ht]
      by_cases h5 : isS T [[59]] (nextS T s) = true
      · rw [if_pos h5, if_pos h5]
        exact sq_ended X ht hln rfl
      · rw [if_neg h5, if_neg h5]
        refine SqAt.bind (hx _ _ ht) (fun _ => mono_ended X.lost _ _) ?_
        intro x x' u u' hu hx'
        exact sq_ended X hu hln (by rw [show x' = ph x from hx']; rfl)
    rw [if_neg h4, if_neg h4]
    refine SqAt.asks ?_
    rw [X.is_ _ _ _ hs]
    by_cases h5 : isS T [[108, 101, 116]] s = true
    · rw [if_pos h5, if_pos h5]
      refine SqAt.both (X.next s s' hs) (Mono.ask fun _ => Mono.name X.lost (Mono.want X.lost ((mono_right X.lost hmx N).bind fun _ => mono_ended X.lost _ _))) ?_
      intro ht
      refine SqAt.asks ?_
      rw [rel_nameX X ht]
      refine SqAt.both (rel_name X ht) (Mono.want X.lost ((mono_right X.lost hmx N).bind fun _ => mono_ended X.lost _ _)) ?_
      intro hu
      refine SqAt.both (rel_want X hu _) ((mono_right X.lost hmx N).bind fun _ => mono_ended X.lost _ _) ?_
      intro hv
      refine SqAt.bind (sq_right X hx hmx hnl N _ _ hv) (fun _ => mono_ended X.lost _ _) ?_
      intro g g' p p' hp hg
      exact sq_ended X hp hln (by rw [show g' = ph g from hg]; rfl)
    rw [if_neg h5, if_neg h5]
    exact sq_change X hx hmx hnl N hln hs
  rcases X.calls s s' hs with h3 | ⟨h3, hk, hl⟩
  · rw [h3]
    by_cases hc : callsS T s = true
    · rw [if_pos hc, if_pos hc]
      refine SqAt.bind (sq_call X hx hmx N s s' hs) (fun _ => mono_ended X.lost _ _) ?_
      intro x x' u u' hu hx'
      exact sq_ended X hu hln (by rw [show x' = ph x from hx']; rfl)
    · rw [if_neg hc, if_neg hc]
      exact rest
  · rw [h3, if_neg (by decide)]
    intro r s1 e
    refine .inl ?_
    have e : (if isS T [[112, 114, 105, 110, 116]] s then _ else _ : PM Int) s = some (r, s1) := e
    rw [isS_k3 hk, if_neg (by decide)] at e
    have e : (if isS T [[114, 101, 116, 117, 114, 110]] s then _ else _ : PM Int) s = some (r, s1) := e
    rw [isS_k3 hk, if_neg (by decide)] at e
    have e : (if isS T [[108, 101, 116]] s then _ else _ : PM Int) s = some (r, s1) := e
    rw [isS_k3 hk, if_neg (by decide)] at e
    unfold changeM at e
    have e : (do
      let b ← ask (isS T [[91]])
      if b then (do
        openM T [91]
        let y ← ex
        shutM T [93]
        mod (wantS T [61])
        let z ← ex
        endedM T ⟨12, lineS src T s, 0, nameX T s, []⟩ [y, z])
      else do
        mod (wantS T [61])
        let y ← rightM src T N ex
        endedM T ⟨11, lineS src T s, 0, nameX T s, []⟩ [y] : PM Int) (nameS T s) = some (r, s1) := e
    have hn : nameS T s = nextS T s := if_pos hk
    rw [hn] at e
    exact (Mono.ask fun _ => Mono.both ((mono_open X.lost _).bind fun _ => hmx.bind fun _ => (mono_shut X.lost _).bind fun _ => Mono.want X.lost (hmx.bind fun _ => mono_ended X.lost _ _)) (Mono.want X.lost ((mono_right X.lost hmx N).bind fun _ => mono_ended X.lost _ _))) _ r s1 hl e

theorem sq_stms {st st' : PM Int} (hst : SqF X st st') (hm : Mono Lost st) : ∀ n (l l' : List Int) s s', Rel s s' → l' = l.map ph → SqAt Rel Lost (RLs ph) (stmsR T st n l) (stmsR T' st' n l') s s' := by
  intro n
  induction n with
  | zero => intro l l' s s' _ _ r s1 e; cases e
  | succ n ih =>
    intro l l' s s' hs hl
    unfold stmsR
    refine SqAt.asks ?_
    rw [X.is_ _ _ _ hs, X.er _ _ hs]
    by_cases hb : (decide (s.er = 0) && !(isS T [[125]] s)) = true
    · rw [if_pos hb, if_pos hb]
      refine SqAt.bind (hst _ _ hs) (fun _ => mono_stms X.lost hm _ _) ?_
      intro x x' t t' ht hx
      exact ih _ _ t t' ht (by rw [hl, show x' = ph x from hx, List.map_append]; rfl)
    · rw [if_neg hb, if_neg hb]
      exact SqAt.ret hs hl
theorem sq_block {st st' : PM Int} (hst : SqF X st st') (hm : Mono Lost st) (N : Nat) : SqF X (blockM src T N st) (blockM src' T' N st') := by
  intro s s' hs
  unfold blockM
  refine SqAt.asks ?_
  have hln := X.line s s' hs
  refine SqAt.opens X hs _ ((mono_stms X.lost hm N _).bind fun _ => (mono_shut X.lost _).bind fun _ => Mono.node X.lost _ _) ?_
  intro t t' ht
  refine SqAt.bind (sq_stms X hst hm N [] [] t t' ht rfl) (fun _ => (mono_shut X.lost _).bind fun _ => Mono.node X.lost _ _) ?_
  intro l l' u u' hu hl
  refine SqAt.shuts X hu _ (Mono.node X.lost _ _) ?_
  intro v v' hv
  exact SqAt.node X hv hln hl _ _
theorem sq_st (N : Nat) : ∀ n, SqF X (stM src T N n) (stM src' T' N n) := by
  intro n
  induction n with
  | zero => intro s s' _ r s1 e; cases e
  | succ n ih => exact sq_statement X (sq_ex X N 0) (mono_ex X.lost N 0) (fun s r s1 => ex_name_lost X N 0 s r s1) (sq_block X ih (mono_st X.lost N n) N) (mono_block X.lost (mono_st X.lost N n) N) N

theorem sq_kind {s s' : PS} (hs : Rel s s') : SqAt Rel Lost (fun a b => b = a) (kindM T) (kindM T') s s' := by
  unfold kindM
  refine SqAt.asks ?_
  rw [X.is_ _ _ _ hs]
  by_cases hb : isS T [[105, 110, 116], [98, 111, 111, 108], [116, 101, 120, 116], [108, 105, 115, 116]] s = true
  · rw [if_pos hb, if_pos hb]
    refine SqAt.asks ?_
    rw [(X.tok _ _ hs).2]
    exact SqAt.both (X.next _ _ hs) Mono.ret (fun h => SqAt.ret h rfl)
  · rw [if_neg hb, if_neg hb]
    exact SqAt.both (X.fail _ _ 20 hs (by decide)) Mono.ret (fun h => SqAt.ret h rfl)
theorem sq_param {s s' : PS} (hs : Rel s s') : SqAt Rel Lost (fun a b => b = a) (paramM T) (paramM T') s s' := by
  unfold paramM
  refine SqAt.asks ?_
  rw [rel_nameX X hs]
  refine SqAt.both (rel_name X hs) ((mono_kind X.lost).bind fun _ => Mono.ret) ?_
  intro ht
  refine SqAt.bind (sq_kind X ht) (fun _ => Mono.ret) ?_
  intro a a' u u' hu ha
  exact SqAt.ret hu (by rw [show a' = a from ha])
theorem sq_params : ∀ n (l : List (List UInt8 × Int)) s s', Rel s s' → SqAt Rel Lost (fun a b => b = a) (paramsR T n l) (paramsR T' n l) s s' := by
  intro n
  induction n with
  | zero => intro l s s' _ r s1 e; cases e
  | succ n ih =>
    intro l s s' hs
    unfold paramsR
    refine SqAt.asks ?_
    rw [X.is_ _ _ _ hs]
    by_cases hb : isS T [[44]] s = true
    · rw [if_pos hb, if_pos hb]
      refine SqAt.both (X.next _ _ hs) ((mono_param X.lost).bind fun _ => mono_params X.lost _ _) ?_
      intro ht
      refine SqAt.bind (sq_param X ht) (fun _ => mono_params X.lost _ _) ?_
      intro a a' u u' hu ha
      rw [show a' = a from ha]
      exact ih _ u u' hu
    · rw [if_neg hb, if_neg hb]
      exact SqAt.ret hs rfl
theorem sq_paramsM (N : Nat) {s s' : PS} (hs : Rel s s') : SqAt Rel Lost (fun a b => b = a) (paramsM T N) (paramsM T' N) s s' := by
  unfold paramsM
  refine SqAt.asks ?_
  rw [X.is_ _ _ _ hs]
  by_cases hb : isS T [[41]] s = true
  · rw [if_pos hb, if_pos hb]
    exact SqAt.ret hs rfl
  · rw [if_neg hb, if_neg hb]
    refine SqAt.bind (sq_param X hs) (fun _ => mono_params X.lost _ _) ?_
    intro a a' u u' hu ha
    rw [show a' = a from ha]
    exact sq_params X N _ u u' hu
theorem sq_ret {s s' : PS} (hs : Rel s s') : SqAt Rel Lost (fun a b => b = a) (retM T) (retM T') s s' := by
  unfold retM
  refine SqAt.asks ?_
  rw [X.is_ _ _ _ hs]
  by_cases hb : isS T [[123]] s = true
  · rw [if_pos hb, if_pos hb]
    exact SqAt.ret hs rfl
  · rw [if_neg hb, if_neg hb]
    exact sq_kind X hs
theorem sq_function (N : Nat) {s s' : PS} (hs : Rel s s') : SqAt Rel Lost (RF ph RL) (functionM src T N) (functionM src' T' N) s s' := by
  unfold functionM
  refine SqAt.asks ?_
  have hln := X.line s s' hs
  have hm1 : ∀ (x : List UInt8) ps, Mono Lost (do mod (wantS T [41]); let r ← retM T; let y ← blockM src T N (stM src T N N); pure (⟨x, lineS src T s, ps, r, y⟩ : Fnc) : PM Fnc) := fun x ps => Mono.want X.lost ((mono_ret X.lost).bind fun _ => (mono_block X.lost (mono_st X.lost N N) N).bind fun _ => Mono.ret)
  refine SqAt.both (rel_want X hs _) (Mono.ask fun _ => Mono.name X.lost (Mono.want X.lost ((mono_paramsM X.lost N).bind fun _ => hm1 _ _))) ?_
  intro ht
  refine SqAt.asks ?_
  rw [rel_nameX X ht]
  refine SqAt.both (rel_name X ht) (Mono.want X.lost ((mono_paramsM X.lost N).bind fun _ => hm1 _ _)) ?_
  intro hu
  refine SqAt.both (rel_want X hu _) ((mono_paramsM X.lost N).bind fun _ => hm1 _ _) ?_
  intro hv
  refine SqAt.bind (sq_paramsM X N hv) (fun _ => hm1 _ _) ?_
  intro ps ps' w w' hw hps
  rw [show ps' = ps from hps]
  refine SqAt.both (rel_want X hw _) ((mono_ret X.lost).bind fun _ => (mono_block X.lost (mono_st X.lost N N) N).bind fun _ => Mono.ret) ?_
  intro hz
  refine SqAt.bind (sq_ret X hz) (fun _ => (mono_block X.lost (mono_st X.lost N N) N).bind fun _ => Mono.ret) ?_
  intro r r' p p' hp hr
  rw [show r' = r from hr]
  refine SqAt.bind (sq_block X (sq_st X N N) (mono_st X.lost N N) N p p' hp) (fun _ => Mono.ret) ?_
  intro y y' q q' hq hy
  exact SqAt.ret hq ⟨rfl, hln, rfl, rfl, hy⟩
/-- All functions, where both runs end together. -/
theorem sq_fns (hz : ∀ s s', Rel s s' → ((tokA T' s').k = 0 ↔ (tokA T s).k = 0)) (N : Nat) : ∀ n (l l' : List Fnc) s s', Rel s s' → RFs ph RL l l' → SqAt Rel Lost (RFs ph RL) (fnsR src T N n l) (fnsR src' T' N n l') s s' := by
  intro n
  induction n with
  | zero => intro l l' s s' _ _ r s1 e; cases e
  | succ n ih =>
    intro l l' s s' hs hl
    unfold fnsR
    refine SqAt.asks ?_
    rw [X.er _ _ hs, show decide ((tokA T' s').k = 0) = decide ((tokA T s).k = 0) from decide_eq_decide.2 (hz s s' hs)]
    by_cases hb : (decide (s.er = 0) && !(decide ((tokA T s).k = 0))) = true
    · rw [if_pos hb, if_pos hb]
      refine SqAt.bind (sq_function X N hs) (fun _ => mono_fns X.lost N _ _) ?_
      intro x x' t t' ht hx
      exact ih _ _ t t' ht (hl.more hx)
    · rw [if_neg hb, if_neg hb]
      exact SqAt.ret hs hl
end
end Go.Proofs.YtgelggdgbmldiaaGreatDoor

namespace Go.Proofs.YtgelggdgbmldiaaGreatDoor
set_option linter.unusedVariables false
set_option linter.unusedSimpArgs false

theorem run10 (p : UInt8 → Bool) (hp : p 10 = false) (a b : List UInt8) : runL p (a ++ 10 :: b) = runL p a := by
  induction a with
  | nil => exact runL_cons_false p 10 b hp
  | cons c r ih =>
    rw [List.cons_append]
    unfold runL
    rw [ih]
theorem take10 (p : UInt8 → Bool) (a b : List UInt8) : (a ++ 10 :: b).take (runL p a) = a.take (runL p a) := List.take_append_of_le_length (runL_le p a)
theorem get10 {a b : List UInt8} {k : Nat} {c : UInt8} (hc : c ≠ 10) (p : UInt8 → Bool) (hp : p 10 = false) : (a ++ 10 :: b)[runL p a]? = some c ↔ a[runL p a]? = some c := by
  by_cases h : runL p a < a.length
  · rw [List.getElem?_append_left h]
  · have h1 : runL p a = a.length := by have := runL_le p a; omega
    rw [h1, List.getElem?_append_right (Nat.le_refl _), Nat.sub_self]
    simp
    exact fun e => hc e.symm
theorem two10 (c : UInt8) (r b : List UInt8) : isTwo ((c :: r) ++ 10 :: b) = isTwo (c :: r) := by
  cases r with
  | nil => simp [isTwo, twosL, List.isPrefixOf]
  | cons d r => simp [isTwo, twosL, List.isPrefixOf]
theorem rem10 (c : UInt8) (r b : List UInt8) : isRem ((c :: r) ++ 10 :: b) = isRem (c :: r) := by
  cases r with
  | nil => simp [isRem, List.isPrefixOf]
  | cons d r => simp [isRem, List.isPrefixOf]
theorem first10 (c : UInt8) (r b : List UInt8) : firstL ((c :: r) ++ 10 :: b) = firstL (c :: r) := by
  have h1 := run10 dig (by decide) (c :: r) b
  have h2 := run10 nmc (by decide) (c :: r) b
  have h3 := run10 txc (by decide) r b
  have e : ((c :: r) ++ 10 :: b) = c :: (r ++ 10 :: b) := rfl
  rw [e, firstL_cons, firstL_cons, ← e]
  have n1 : numberL ((c :: r) ++ 10 :: b) = numberL (c :: r) := by unfold numberL; rw [h1, take10]
  have n2 : nameL ((c :: r) ++ 10 :: b) = nameL (c :: r) := by unfold nameL; rw [h2, take10]
  have n3 : textL (r ++ 10 :: b) = textL r := by
    unfold textL
    rw [h3]
    by_cases hq : r[runL txc r]? = some 34
    · rw [if_pos hq, if_pos ((get10 (k := 0) (by decide) txc (by decide)).mpr hq)]
    · rw [if_neg hq, if_neg (fun h => hq ((get10 (k := 0) (by decide) txc (by decide)).mp h))]
  have n4 : signL ((c :: r) ++ 10 :: b) = signL (c :: r) := by
    rw [e, signL_cons, signL_cons, ← e, two10]
  rw [n1, n2, n3, n4]

/-- The tokens of a source, behind it a new line and another one. -/
theorem lexL_both (b : List UInt8) (l : List UInt8) (p : Nat) : (lexL l p).2 = none → ∃ init, (lexL l p).1 = init ++ [⟨0, [], p + l.length⟩] ∧ lexL (l ++ 10 :: b) p = (init ++ (lexL b (p + l.length + 1)).1, (lexL b (p + l.length + 1)).2) := by
  have hb10 : blk 10 = true := by decide
  refine lexL_ind (P := fun l p => (lexL l p).2 = none → ∃ init, (lexL l p).1 = init ++ [⟨0, [], p + l.length⟩] ∧ lexL (l ++ 10 :: b) p = (init ++ (lexL b (p + l.length + 1)).1, (lexL b (p + l.length + 1)).2)) ?_ ?_ ?_ ?_ ?_ ?_ l p
  · intro p _
    exact ⟨[], rfl, by rw [List.nil_append, lexL_blank hb10]; rfl⟩
  · intro c r p h0 ih hn
    rw [lexL_blank h0] at hn ⊢
    obtain ⟨init, h1, h2⟩ := ih hn
    rw [List.cons_append, lexL_blank h0, List.length_cons]
    rw [show p + 1 + r.length = p + (r.length + 1) by omega] at h1 h2
    exact ⟨init, h1, h2⟩
  · intro c r p h0 h1 h2 hn
    rw [lexL_rem_end h0 h1 h2] at hn ⊢
    refine ⟨[], rfl, ?_⟩
    have h3 := run10 (fun d => !decide (d = 10)) (by decide) (c :: r) b
    have h4 : isRem (c :: (r ++ 10 :: b)) = true := (rem10 c r b).trans h1
    rw [List.cons_append] at h3 ⊢
    rw [lexL_rem h0 h4 (by rw [h3, h2]; simp), h3, h2]
    rw [show (c :: (r ++ 10 :: b)).drop (c :: r).length = 10 :: b by rw [← List.cons_append, List.drop_left], lexL_blank hb10]
    rfl
  · intro c r p h0 h1 h2 ih hn
    rw [lexL_rem h0 h1 h2] at hn ⊢
    obtain ⟨init, i1, i2⟩ := ih hn
    have hle := runL_le (fun d => !decide (d = 10)) (c :: r)
    have h3 := run10 (fun d => !decide (d = 10)) (by decide) (c :: r) b
    have h4 : isRem (c :: (r ++ 10 :: b)) = true := (rem10 c r b).trans h1
    rw [List.cons_append] at h3 ⊢
    rw [List.length_drop] at i1 i2
    rw [show p + runL (fun d => !decide (d = 10)) (c :: r) + ((c :: r).length - runL (fun d => !decide (d = 10)) (c :: r)) = p + (c :: r).length by omega] at i1 i2
    refine ⟨init, i1, ?_⟩
    rw [lexL_rem h0 h4 (by rw [h3]; simp at hle ⊢; omega), h3, ← List.cons_append, List.drop_append_of_le_length hle]
    exact i2
  · intro c r p h0 h1 h2 hn
    rw [lexL_bad h0 h1 h2] at hn
    cases hn
  · intro c r p h0 h1 h2 ih hn
    rw [lexL_tok h0 h1 h2] at hn ⊢
    obtain ⟨init, i1, i2⟩ := ih hn
    have hsz := first_size (c :: r) (by simp) h2
    have h4 : isRem (c :: (r ++ 10 :: b)) = false := (rem10 c r b).trans h1
    have h5 : firstL (c :: (r ++ 10 :: b)) = firstL (c :: r) := first10 c r b
    rw [List.length_drop] at i1 i2
    rw [show p + (firstL (c :: r)).2.1 + ((c :: r).length - (firstL (c :: r)).2.1) = p + (c :: r).length by omega] at i1 i2
    refine ⟨_ :: init, by rw [i1]; rfl, ?_⟩
    rw [List.cons_append, lexL_tok h0 h4 (by rw [h5]; exact h2), h5, ← List.cons_append, List.drop_append_of_le_length hsz.2, i2, List.take_append_of_le_length hsz.2]
    rfl
end Go.Proofs.YtgelggdgbmldiaaGreatDoor
