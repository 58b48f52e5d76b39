/-
  Layer 2: two runs of the parser's data, side by side. Written by an AI agent.
-/
import Derived.Lib.Bytealg
import Derived.Test.YtgelggdgbmldiaaDoorMcaa
import Derived.Test.YtgelggdgbmldiaaDoorMcac
import Derived.Test.YtgelggdgbmldiaaDoorMcbl
namespace Go.Proofs.YtgelggdgbmldiaaDoor
set_option linter.unusedVariables false
set_option linter.unusedSimpArgs false
/-- What two runs' states have in common: the one is as the other, a number moved; and lines as they may. -/
structure Prim (src src' : List UInt8) (T T' : List Tok) (Rel : PS → PS → Prop) (Lost : PS → Prop) (ph : Int → Int) (RL : Int → Int → Prop) : Prop where
  lost : LostP T Lost
  is_ : ∀ s s' ts, Rel s s' → isS T' ts s' = isS T ts s
  tok : ∀ s s', Rel s s' → (tokA T' s').k = (tokA T s).k ∧ (tokA T' s').x = (tokA T s).x
  calls : ∀ s s', Rel s s' → callsS T' s' = callsS T s ∨ (callsS T s = false ∧ (tokA T s).k = 3 ∧ Lost (nextS T s))
  line : ∀ s s', Rel s s' → RL (lineS src T s) (lineS src' T' s')
  er : ∀ s s', Rel s s' → decide (s'.er = 0) = decide (s.er = 0)
  next : ∀ s s', Rel s s' → Lost (nextS T s) ∨ Rel (nextS T s) (nextS T' s')
  fail : ∀ s s' e, Rel s s' → (e = 20 ∨ e = 21) → Lost (failS T e s) ∨ Rel (failS T e s) (failS T' e s')
  dp : ∀ s s', Rel s s' → s'.dp = s.dp ∧ ∀ d, Rel { s with dp := d } { s' with dp := d }
  node : ∀ s s' k ln ln' n x l, Rel s s' → RL ln ln' → s.nd.length < 100000 → Lost { s with nd := s.nd ++ [⟨k, ln, n, x, l⟩] } ∨ (s'.nd.length < 100000 ∧ (s'.nd.length : Int) = ph (s.nd.length : Int) ∧ Rel { s with nd := s.nd ++ [⟨k, ln, n, x, l⟩] } { s' with nd := s'.nd ++ [⟨k, ln', n, x, l.map ph⟩] })
def SqAt {α β : Type} (Rel : PS → PS → Prop) (Lost : PS → Prop) (RA : α → β → Prop) (m : PM α) (m' : PM β) (s s' : PS) : Prop := ∀ r s1, m s = some (r, s1) → Lost s1 ∨ ∃ r' s1', m' s' = some (r', s1') ∧ Rel s1 s1' ∧ RA r r'
def RI (ph : Int → Int) (r r' : Int) : Prop := r' = ph r
def RLs (ph : Int → Int) (l l' : List Int) : Prop := l' = l.map ph
section
variable {src src' : List UInt8} {T T' : List Tok} {Rel : PS → PS → Prop} {Lost : PS → Prop} {ph : Int → Int} {RL : Int → Int → Prop}
theorem SqAt.bind {α β γ δ : Type} {RA : α → β → Prop} {RB : γ → δ → Prop} {m : PM α} {m' : PM β} {f : α → PM γ} {f' : β → PM δ} {s s' : PS} (h : SqAt Rel Lost RA m m' s s') (hm : ∀ a, Mono Lost (f a)) (k : ∀ a a' t t', Rel t t' → RA a a' → SqAt Rel Lost RB (f a) (f' a') t t') : SqAt Rel Lost RB (m >>= f) (m' >>= f') s s' := by
  intro r s1 e
  obtain ⟨a, t, e1, e2⟩ := bind_out e
  rcases h a t e1 with hl | ⟨a', t', h1, h2, h3⟩
  · exact .inl (hm a t r s1 hl e2)
  · rcases k a a' t t' h2 h3 r s1 e2 with hl | ⟨r', s1', h4, h5, h6⟩
    · exact .inl hl
    · exact .inr ⟨r', s1', (bind_in h1).trans h4, h5, h6⟩
theorem SqAt.ret {α β : Type} {RA : α → β → Prop} {a : α} {a' : β} {s s' : PS} (h : Rel s s') (k : RA a a') : SqAt Rel Lost RA (pure a) (pure a') s s' := by
  intro r s1 e
  have e := pure_out e
  injection e with e1 e2
  subst e1; subst e2
  exact .inr ⟨a', s', rfl, h, k⟩
theorem SqAt.asks {α β γ δ : Type} {RB : γ → δ → Prop} {g : PS → α} {g' : PS → β} {f : α → PM γ} {f' : β → PM δ} {s s' : PS} (h : SqAt Rel Lost RB (f (g s)) (f' (g' s')) s s') : SqAt Rel Lost RB (ask g >>= f) (ask g' >>= f') s s' := h
theorem SqAt.both {γ δ : Type} {RB : γ → δ → Prop} {g g' : PS → PS} {f : Unit → PM γ} {f' : Unit → PM δ} {s s' : PS} (hg : Lost (g s) ∨ Rel (g s) (g' s')) (hm : Mono Lost (f ())) (k : Rel (g s) (g' s') → SqAt Rel Lost RB (f ()) (f' ()) (g s) (g' s')) : SqAt Rel Lost RB (mod g >>= f) (mod g' >>= f') s s' := by
  intro r s1 e
  rcases hg with hl | hr
  · exact .inl (hm (g s) r s1 hl e)
  · exact k hr r s1 e
theorem isS_k3 {ts : List (List UInt8)} {s : PS} (h : (tokA T s).k = 3) : isS T ts s = false := by
  unfold isS
  rw [h]
  rfl
variable (X : Prim src src' T T' Rel Lost ph RL)
include X
theorem SqAt.deep {γ δ : Type} {RB : γ → δ → Prop} {f : Unit → PM γ} {f' : Unit → PM δ} {s s' : PS} (d : Int) (hs : Rel s s') (k : ∀ t t', Rel t t' → SqAt Rel Lost RB (f ()) (f' ()) t t') : SqAt Rel Lost RB (deepS d >>= f) (deepS d >>= f') s s' := by
  intro r s1 e
  obtain ⟨u, t, e1, e2⟩ := bind_out e
  unfold deepS at e1
  split at e1
  · rename_i hl
    injection e1 with e1
    injection e1 with e3 e4
    subst e4
    obtain ⟨h1, h2⟩ := X.dp s s' hs
    have h3 := h2 (s.dp + d)
    rcases k _ _ h3 r s1 e2 with hl2 | ⟨r', s1', h4, h5⟩
    · exact .inl hl2
    · refine .inr ⟨r', s1', ?_, h5⟩
      exact (bind_in (m := deepS d) (show deepS d s' = some ((), { s' with dp := s.dp + d }) from by rw [← h1]; exact if_pos (by rw [h1]; exact hl))).trans h4
  · cases e1
theorem SqAt.node {k n : Int} {x : List UInt8} {ln ln' : Int} {l l' : List Int} {s s' : PS} (hs : Rel s s') (hln : RL ln ln') (hl : l' = l.map ph) (d d' : List Int) : SqAt Rel Lost (RI ph) (nodeM ⟨k, ln, n, x, d⟩ l) (nodeM ⟨k, ln', n, x, d'⟩ l') s s' := by
  subst hl
  intro r s1 e
  unfold nodeM at e
  split at e
  · rename_i hb
    injection e with e
    injection e with e1 e2
    subst e1; subst e2
    rcases X.node s s' k ln ln' n x l hs hln hb with h | ⟨h1, h2, h3⟩
    · exact .inl h
    · exact .inr ⟨_, _, if_pos h1, h3, h2⟩
  · cases e
theorem rel_want {s s' : PS} (hs : Rel s s') (x : List UInt8) : Lost (wantS T x s) ∨ Rel (wantS T x s) (wantS T' x s') := by
  unfold wantS
  rw [X.is_ s s' _ hs]
  by_cases hb : isS T [x] s = true
  · rw [if_pos hb, if_pos hb]
    exact X.next s s' hs
  · rw [if_neg hb, if_neg hb]
    exact X.fail s s' 20 hs (by decide)
theorem rel_name {s s' : PS} (hs : Rel s s') : Lost (nameS T s) ∨ Rel (nameS T s) (nameS T' s') := by
  unfold nameS
  rw [(X.tok s s' hs).1]
  by_cases hb : (tokA T s).k = 3
  · rw [if_pos hb, if_pos hb]
    exact X.next s s' hs
  · rw [if_neg hb, if_neg hb]
    exact X.fail s s' 20 hs (by decide)
theorem rel_nameX {s s' : PS} (hs : Rel s s') : nameX T' s' = nameX T s := by
  unfold nameX
  rw [(X.tok s s' hs).1, (X.tok s s' hs).2]
theorem rel_open {s s' : PS} (hs : Rel s s') (x : List UInt8) : Lost (openS T x s) ∨ Rel (openS T x s) (openS T' x s') := by
  unfold openS
  rw [X.is_ s s' _ hs, (X.dp s s' hs).1]
  by_cases hb : (isS T [x] s && decide (16 ≤ s.dp)) = true
  · rw [if_pos hb, if_pos hb]
    rcases X.fail s s' 21 hs (by decide) with h | h
    · exact .inl (lost_want X.lost x _ h)
    · exact rel_want X h x
  · rw [if_neg hb, if_neg hb]
    exact rel_want X hs x
theorem SqAt.opens {γ δ : Type} {RB : γ → δ → Prop} {f : Unit → PM γ} {f' : Unit → PM δ} {s s' : PS} (hs : Rel s s') (x : List UInt8) (hm : Mono Lost (f ())) (k : ∀ t t', Rel t t' → SqAt Rel Lost RB (f ()) (f' ()) t t') : SqAt Rel Lost RB (openM T x >>= f) (openM T' x >>= f') s s' := by
  have A : (openM T x >>= f) = (mod (openS T x) >>= fun _ => deepS 1 >>= f) := bind_assoc _ _ _
  have A' : (openM T' x >>= f') = (mod (openS T' x) >>= fun _ => deepS 1 >>= f') := bind_assoc _ _ _
  rw [A, A']
  exact SqAt.both (rel_open X hs x) ((Mono.deep X.lost 1).bind fun _ => hm) (fun h => SqAt.deep X 1 h k)
theorem SqAt.shuts {γ δ : Type} {RB : γ → δ → Prop} {f : Unit → PM γ} {f' : Unit → PM δ} {s s' : PS} (hs : Rel s s') (x : List UInt8) (hm : Mono Lost (f ())) (k : ∀ t t', Rel t t' → SqAt Rel Lost RB (f ()) (f' ()) t t') : SqAt Rel Lost RB (shutM T x >>= f) (shutM T' x >>= f') s s' := by
  have A : (shutM T x >>= f) = (mod (wantS T x) >>= fun _ => deepS (-1) >>= f) := bind_assoc _ _ _
  have A' : (shutM T' x >>= f') = (mod (wantS T' x) >>= fun _ => deepS (-1) >>= f') := bind_assoc _ _ _
  rw [A, A']
  exact SqAt.both (rel_want X hs x) ((Mono.deep X.lost (-1)).bind fun _ => hm) (fun h => SqAt.deep X (-1) h k)
def SqF (X : Prim src src' T T' Rel Lost ph RL) (m m' : PM Int) : Prop := ∀ s s', Rel s s' → SqAt Rel Lost (RI ph) m m' s s'
theorem sq_inside {ex ex' : PM Int} (hx : SqF X ex ex') (hmx : Mono Lost ex) (a b : List UInt8) {s s' : PS} (hs : Rel s s') : SqAt Rel Lost (RI ph) (insideM T ex a b) (insideM T' ex' a b) s s' := by
  unfold insideM
  refine SqAt.opens X hs a (hmx.bind fun _ => (mono_shut X.lost b).bind fun _ => Mono.ret) ?_
  intro t t' ht
  refine SqAt.bind (hx t t' ht) (fun _ => (mono_shut X.lost b).bind fun _ => Mono.ret) ?_
  intro y y' u u' hu hy
  refine SqAt.shuts X hu b Mono.ret ?_
  intro v v' hv
  exact SqAt.ret hv hy
theorem sq_variable {ex ex' : PM Int} (hx : SqF X ex ex') (hmx : Mono Lost ex) {ln ln' : Int} (hln : RL ln ln') {s s' : PS} (hs : Rel s s') : SqAt Rel Lost (RI ph) (variableM T ex ln) (variableM T' ex' ln') s s' := by
  unfold variableM
  refine SqAt.asks ?_
  rw [rel_nameX X hs]
  refine SqAt.both (rel_name X hs) (Mono.ask fun _ => Mono.both ((mono_inside X.lost hmx _ _).bind fun _ => Mono.node X.lost _ _) (Mono.node X.lost _ _)) ?_
  intro ht
  refine SqAt.asks ?_
  rw [X.is_ _ _ _ ht]
  by_cases hb : isS T [[91]] (nameS T s) = true
  · rw [if_pos hb, if_pos hb]
    refine SqAt.bind (sq_inside X hx hmx _ _ ht) (fun _ => Mono.node X.lost _ _) ?_
    intro y y' u u' hu hy
    exact SqAt.node X hu hln (by rw [show y' = ph y from hy]; rfl) _ _
  · rw [if_neg hb, if_neg hb]
    exact SqAt.node X ht hln rfl _ _
theorem sq_nextnode {k n : Int} {x : List UInt8} {ln ln' : Int} (hln : RL ln ln') {s s' : PS} (hs : Rel s s') : SqAt Rel Lost (RI ph) (do mod (nextS T); nodeM ⟨k, ln, n, x, []⟩ []) (do mod (nextS T'); nodeM ⟨k, ln', n, x, []⟩ []) s s' :=
  SqAt.both (X.next s s' hs) (Mono.node X.lost _ _) (fun h => SqAt.node X h hln rfl _ _)
theorem sq_atom {ex ex' : PM Int} (hx : SqF X ex ex') (hmx : Mono Lost ex) : SqF X (atomM src T ex) (atomM src' T' ex') := by
  intro s s' hs
  unfold atomM
  refine SqAt.asks (SqAt.asks ?_)
  have hln := X.line s s' hs
  rw [(X.tok s s' hs).1, (X.tok s s' hs).2]
  by_cases h1 : (tokA T s).k = 1
  · rw [if_pos h1, if_pos h1]
    exact sq_nextnode X hln hs
  rw [if_neg h1, if_neg h1]
  by_cases h2 : (tokA T s).k = 2
  · rw [if_pos h2, if_pos h2]
    exact sq_nextnode X hln hs
  rw [if_neg h2, if_neg h2]
  refine SqAt.asks ?_
  rw [X.is_ _ _ _ hs]
  by_cases hb : isS T [[116, 114, 117, 101], [102, 97, 108, 115, 101]] s = true
  · rw [if_pos hb, if_pos hb]
    exact sq_nextnode X hln hs
  rw [if_neg hb, if_neg hb]
  refine SqAt.asks ?_
  rw [X.is_ _ _ _ hs]
  by_cases hl : isS T [[108, 101, 110]] s = true
  · rw [if_pos hl, if_pos hl]
    refine SqAt.both (X.next s s' hs) ((mono_inside X.lost hmx _ _).bind fun _ => Mono.node X.lost _ _) ?_
    intro ht
    refine SqAt.bind (sq_inside X hx hmx _ _ ht) (fun _ => Mono.node X.lost _ _) ?_
    intro y y' u u' hu hy
    exact SqAt.node X hu hln (by rw [show y' = ph y from hy]; rfl) _ _
  rw [if_neg hl, if_neg hl]
  refine SqAt.asks ?_
  rw [X.is_ _ _ _ hs]
  by_cases hp : isS T [[40]] s = true
  · rw [if_pos hp, if_pos hp]
    exact sq_inside X hx hmx _ _ hs
  rw [if_neg hp, if_neg hp]
  exact sq_variable X hx hmx hln hs
theorem sq_sign {fac fac' : PM Int} (hf : SqF X fac fac') (hmf : Mono Lost fac) (a : List UInt8) {k : Int} {ln ln' : Int} (hln : RL ln ln') {s s' : PS} (hs : Rel s s') : SqAt Rel Lost (RI ph) (do openM T a; let y ← fac; deepS (-1); nodeM ⟨k, ln, 0, [], []⟩ [y]) (do openM T' a; let y ← fac'; deepS (-1); nodeM ⟨k, ln', 0, [], []⟩ [y]) s s' := by
  refine SqAt.opens X hs a (hmf.bind fun _ => (Mono.deep X.lost _).bind fun _ => Mono.node X.lost _ _) ?_
  intro t t' ht
  refine SqAt.bind (hf t t' ht) (fun _ => (Mono.deep X.lost _).bind fun _ => Mono.node X.lost _ _) ?_
  intro y y' u u' hu hy
  refine SqAt.deep X (-1) hu ?_
  intro v v' hv
  exact SqAt.node X hv hln (by rw [show y' = ph y from hy]; rfl) _ _
theorem sq_factor {fac fac' ex ex' : PM Int} (hf : SqF X fac fac') (hmf : Mono Lost fac) (hx : SqF X ex ex') (hmx : Mono Lost ex) : SqF X (factorM src T fac ex) (factorM src' T' fac' ex') := by
  intro s s' hs
  unfold factorM
  refine SqAt.asks (SqAt.asks (SqAt.asks ?_))
  have hln := X.line s s' hs
  rw [(X.tok s s' hs).2, X.is_ _ _ _ hs]
  by_cases h1 : isS T [[33]] s = true
  · rw [if_pos h1, if_pos h1]
    exact sq_sign X hf hmf _ hln hs
  rw [if_neg h1, if_neg h1]
  refine SqAt.asks ?_
  rw [X.is_ _ _ _ hs]
  by_cases h2 : isS T [[45]] s = true
  · rw [if_pos h2, if_pos h2]
    exact sq_sign X hf hmf _ hln hs
  rw [if_neg h2, if_neg h2]
  exact sq_atom X hx hmx s s' hs
theorem sq_chain {lv : Nat} {sub sub' : PM Int} (hsub : SqF X sub sub') (hm : Mono Lost sub) {ln ln' : Int} (hln : RL ln ln') : ∀ n (x x' : Int) s s', Rel s s' → x' = ph x → SqAt Rel Lost (RI ph) (chainR T lv sub ln n x) (chainR T' lv sub' ln' n x') s s' := by
  intro n
  induction n with
  | zero => intro x x' s s' _ _ r s1 e; cases e
  | succ n ih =>
    intro x x' s s' hs hx
    unfold chainR
    refine SqAt.asks ?_
    rw [X.is_ _ _ _ hs]
    by_cases hb : isS T (signsL lv) s = true
    · rw [if_pos hb, if_pos hb]
      refine SqAt.asks ?_
      rw [(X.tok s s' hs).2]
      have hmr : ∀ z, Mono Lost (if lv = 2 then pure z else chainR T lv sub ln n z) := fun z => Mono.both Mono.ret (mono_chain X.lost hm ln n z)
      refine SqAt.both (X.next s s' hs) (hm.bind fun _ => (Mono.node X.lost _ _).bind fun _ => hmr _) ?_
      intro ht
      refine SqAt.bind (hsub _ _ ht) (fun _ => (Mono.node X.lost _ _).bind fun _ => hmr _) ?_
      intro y y' u u' hu hy
      refine SqAt.bind (SqAt.node X hu hln (by rw [show y' = ph y from hy, hx]; rfl) _ _) (fun _ => hmr _) ?_
      intro z z' v v' hv hz
      by_cases h2 : lv = 2
      · rw [if_pos h2, if_pos h2]
        exact SqAt.ret hv hz
      · rw [if_neg h2, if_neg h2]
        exact ih z z' v v' hv hz
    · rw [if_neg hb, if_neg hb]
      exact SqAt.ret hs hx
theorem sq_ex : ∀ n lv, SqF X (exM src T n lv) (exM src' T' n lv) := by
  intro n
  induction n with
  | zero => intro lv s s' _ r s1 e; cases e
  | succ n ih =>
    intro lv s s' hs
    unfold exM
    by_cases h5 : lv = 5
    · rw [if_pos h5, if_pos h5]
      exact sq_factor X (ih 5) (mono_ex X.lost n 5) (ih 0) (mono_ex X.lost n 0) s s' hs
    · rw [if_neg h5, if_neg h5]
      refine SqAt.asks ?_
      have hln := X.line s s' hs
      refine SqAt.bind (ih (lv + 1) s s' hs) (fun _ => mono_chain X.lost (mono_ex X.lost n (lv + 1)) _ _ _) ?_
      intro x x' t t' ht hx
      exact sq_chain X (ih (lv + 1)) (mono_ex X.lost n (lv + 1)) hln n x x' t t' ht hx
theorem sq_comma {ex ex' : PM Int} (hx : SqF X ex ex') (hmx : Mono Lost ex) : ∀ n (l l' : List Int) s s', Rel s s' → l' = l.map ph → SqAt Rel Lost (RLs ph) (commaR T ex n l) (commaR T' ex' n l') s s' := by
  intro n
  induction n with
  | zero => intro l l' s s' _ _ r s1 e; cases e
  | succ n ih =>
    intro l l' s s' hs hl
    unfold commaR
    refine SqAt.asks ?_
    rw [X.is_ _ _ _ hs]
    by_cases hb : isS T [[44]] s = true
    · rw [if_pos hb, if_pos hb]
      refine SqAt.both (X.next s s' hs) (hmx.bind fun _ => mono_comma X.lost hmx _ _) ?_
      intro ht
      refine SqAt.bind (hx _ _ ht) (fun _ => mono_comma X.lost hmx _ _) ?_
      intro y y' u u' hu hy
      exact ih _ _ u u' hu (by rw [hl, show y' = ph y from hy, List.map_append]; rfl)
    · rw [if_neg hb, if_neg hb]
      exact SqAt.ret hs hl
theorem sq_args {ex ex' : PM Int} (hx : SqF X ex ex') (hmx : Mono Lost ex) (N : Nat) {s s' : PS} (hs : Rel s s') : SqAt Rel Lost (RLs ph) (argsM T N ex) (argsM T' N ex') s s' := by
  unfold argsM
  refine SqAt.asks ?_
  rw [X.is_ _ _ _ hs]
  by_cases hb : isS T [[41]] s = true
  · rw [if_pos hb, if_pos hb]
    exact SqAt.ret hs rfl
  · rw [if_neg hb, if_neg hb]
    refine SqAt.bind (hx _ _ hs) (fun _ => mono_comma X.lost hmx _ _) ?_
    intro y y' u u' hu hy
    exact sq_comma X hx hmx N _ _ u u' hu (by rw [show y' = ph y from hy]; rfl)
theorem sq_call {ex ex' : PM Int} (hx : SqF X ex ex') (hmx : Mono Lost ex) (N : Nat) : SqF X (callM src T N ex) (callM src' T' N ex') := by
  intro s s' hs
  unfold callM
  refine SqAt.asks (SqAt.asks ?_)
  have hln := X.line s s' hs
  rw [rel_nameX X hs]
  have hm3 : ∀ l, Mono Lost (do mod (wantS T [41]); nodeM ⟨21, lineS src T s, 0, nameX T s, []⟩ l : PM Int) := fun l => Mono.want X.lost (Mono.node X.lost _ _)
  refine SqAt.both (rel_name X hs) (Mono.want X.lost ((mono_args X.lost hmx N).bind fun _ => hm3 _)) ?_
  intro ht
  refine SqAt.both (rel_want X ht _) ((mono_args X.lost hmx N).bind fun _ => hm3 _) ?_
  intro hu
  refine SqAt.bind (sq_args X hx hmx N hu) (fun _ => hm3 _) ?_
  intro l l' v v' hv hl
  refine SqAt.both (rel_want X hv _) (Mono.node X.lost _ _) ?_
  intro hz
  exact SqAt.node X hz hln hl _ _
theorem ex_name_lost : ∀ n lv s r s1, (tokA T s).k = 3 → Lost (nextS T s) → exM src T n lv s = some (r, s1) → Lost s1 := by
  intro n
  induction n with
  | zero => intro lv s r s1 _ _ e; cases e
  | succ n ih =>
    intro lv s r s1 hk hl e
    unfold exM at e
    by_cases h5 : lv = 5
    · rw [if_pos h5] at e
      unfold factorM at e
      have e : (if isS T [[33]] s then _ else _ : PM Int) s = some (r, s1) := e
      rw [isS_k3 hk, if_neg (by decide)] at e
      have e : (if isS T [[45]] s then _ else _ : PM Int) s = some (r, s1) := e
      rw [isS_k3 hk, if_neg (by decide)] at e
      unfold atomM at e
      have e : (if (tokA T s).k = 1 then _ else _ : PM Int) s = some (r, s1) := e
      rw [hk, if_neg (by decide), if_neg (by decide)] at e
      have e : (if isS T [[116, 114, 117, 101], [102, 97, 108, 115, 101]] s then _ else _ : PM Int) s = some (r, s1) := e
      rw [isS_k3 hk, if_neg (by decide)] at e
      have e : (if isS T [[108, 101, 110]] s then _ else _ : PM Int) s = some (r, s1) := e
      rw [isS_k3 hk, if_neg (by decide)] at e
      have e : (if isS T [[40]] s then _ else _ : PM Int) s = some (r, s1) := e
      rw [isS_k3 hk, if_neg (by decide)] at e
      unfold variableM at e
      have e : (do let b ← ask (isS T [[91]])
                   if b then (do
                     let y ← insideM T (exM src T n 0) [91] [93]
                     nodeM ⟨5, lineS src T s, 0, nameX T s, []⟩ [y])
                   else nodeM ⟨4, lineS src T s, 0, nameX T s, []⟩ [] : PM Int) (nameS T s) = some (r, s1) := e
      have hn : nameS T s = nextS T s := if_pos hk
      rw [hn] at e
      exact (Mono.ask fun _ => Mono.both ((mono_inside X.lost (mono_ex X.lost n 0) _ _).bind fun _ => Mono.node X.lost _ _) (Mono.node X.lost _ _)) _ r s1 hl e
    · rw [if_neg h5] at e
      obtain ⟨x, t, e1, e2⟩ := bind_out (show (exM src T n (lv + 1) >>= fun x => chainR T lv (exM src T n (lv + 1)) (lineS src T s) n x) s = some (r, s1) from e)
      exact mono_chain X.lost (mono_ex X.lost n (lv + 1)) _ _ _ t r s1 (ih (lv + 1) s x t hk hl e1) e2
end
end Go.Proofs.YtgelggdgbmldiaaDoor
