/-
  Layer 2: two runs of the parser's data, side by side: statements and functions. Written by an AI agent.
  Layer 2: the tokens of two sources, one behind the other. Written by an AI agent.
  Layer 2: a source, and more behind it: the same error at the same token. Written by an AI agent.
  Layer 2: two sources, one behind the other (data, the whole). Written by an AI agent.
  Layer 2: a source whose tokens stand apart, each in a line of its own (data). Written by an AI agent.
-/
import Derived.Test.YtgelggdgbmldiaaDoorMkbk
namespace Go.Proofs.YtgelggdgbmldiaaDoor
set_option linter.unusedVariables false
set_option linter.unusedSimpArgs false
def RF (ph : Int → Int) (RL : Int → Int → Prop) (f f' : Fnc) : Prop := f'.s = f.s ∧ RL f.ln f'.ln ∧ f'.ps = f.ps ∧ f'.ret = f.ret ∧ f'.body = ph f.body
def RFs (ph : Int → Int) (RL : Int → Int → Prop) : List Fnc → List Fnc → Prop
  | [], [] => True
  | f :: l, f' :: l' => RF ph RL f f' ∧ RFs ph RL l l'
  | _, _ => False
theorem RFs.more {ph : Int → Int} {RL : Int → Int → Prop} : ∀ {l l' : List Fnc} {f f' : Fnc}, RFs ph RL l l' → RF ph RL f f' → RFs ph RL (l ++ [f]) (l' ++ [f'])
  | [], [], _, _, _, hf => ⟨hf, trivial⟩
  | _ :: l, _ :: l', _, _, h, hf => ⟨h.1, RFs.more h.2 hf⟩
  | [], _ :: _, _, _, h, _ => h.elim
  | _ :: _, [], _, _, h, _ => h.elim
section
variable {src src' : List UInt8} {T T' : List Tok} {Rel : PS → PS → Prop} {Lost : PS → Prop} {ph : Int → Int} {RL : Int → Int → Prop}
variable (X : Prim src src' T T' Rel Lost ph RL)
include X
theorem sq_right {ex ex' : PM Int} (hx : SqF X ex ex') (hmx : Mono Lost ex) (hnl : ∀ s r s1, (tokA T s).k = 3 → Lost (nextS T s) → ex s = some (r, s1) → Lost s1) (N : Nat) : SqF X (rightM src T N ex) (rightM src' T' N ex') := by
  intro s s' hs
  unfold rightM
  refine SqAt.asks ?_
  have hln := X.line s s' hs
  refine SqAt.asks ?_
  rw [X.is_ _ _ _ hs]
  by_cases h1 : isS T [[105, 110, 112, 117, 116]] s = true
  · rw [if_pos h1, if_pos h1]
    exact sq_nextnode X hln hs
  rw [if_neg h1, if_neg h1]
  refine SqAt.asks ?_
  rw [X.is_ _ _ _ hs]
  by_cases h2 : isS T [[110, 101, 119]] s = true
  · rw [if_pos h2, if_pos h2]
    refine SqAt.both (X.next s s' hs) (Mono.want X.lost (hmx.bind fun _ => Mono.want X.lost (Mono.node X.lost _ _))) ?_
    intro ht
    refine SqAt.both (rel_want X ht _) (hmx.bind fun _ => Mono.want X.lost (Mono.node X.lost _ _)) ?_
    intro hu
    refine SqAt.bind (hx _ _ hu) (fun _ => Mono.want X.lost (Mono.node X.lost _ _)) ?_
    intro y y' v v' hv hy
    refine SqAt.both (rel_want X hv _) (Mono.node X.lost _ _) ?_
    intro hz
    exact SqAt.node X hz hln (by rw [show y' = ph y from hy]; rfl) _ _
  rw [if_neg h2, if_neg h2]
  refine SqAt.asks ?_
  rcases X.calls s s' hs with h3 | ⟨h3, hk, hl⟩
  · rw [h3]
    by_cases hc : callsS T s = true
    · rw [if_pos hc, if_pos hc]
      exact sq_call X hx hmx N s s' hs
    · rw [if_neg hc, if_neg hc]
      exact hx s s' hs
  · rw [h3, if_neg (by decide)]
    intro r s1 e
    exact .inl (hnl s r s1 hk hl e)
theorem sq_ended {k n : Int} {x : List UInt8} {ln ln' : Int} {l l' : List Int} {s s' : PS} (hs : Rel s s') (hln : RL ln ln') (hl : l' = l.map ph) : SqAt Rel Lost (RI ph) (endedM T ⟨k, ln, n, x, []⟩ l) (endedM T' ⟨k, ln', n, x, []⟩ l') s s' :=
  SqAt.both (rel_want X hs _) (Mono.node X.lost _ _) (fun h => SqAt.node X h hln hl _ _)
theorem sq_change {ex ex' : PM Int} (hx : SqF X ex ex') (hmx : Mono Lost ex) (hnl : ∀ s r s1, (tokA T s).k = 3 → Lost (nextS T s) → ex s = some (r, s1) → Lost s1) (N : Nat) {ln ln' : Int} (hln : RL ln ln') {s s' : PS} (hs : Rel s s') : SqAt Rel Lost (RI ph) (changeM src T N ex ln) (changeM src' T' N ex' ln') s s' := by
  unfold changeM
  refine SqAt.asks ?_
  rw [rel_nameX X hs]
  refine SqAt.both (rel_name X hs) (Mono.ask fun _ => Mono.both ((mono_open X.lost _).bind fun _ => hmx.bind fun _ => (mono_shut X.lost _).bind fun _ => Mono.want X.lost (hmx.bind fun _ => mono_ended X.lost _ _)) (Mono.want X.lost ((mono_right X.lost hmx N).bind fun _ => mono_ended X.lost _ _))) ?_
  intro ht
  refine SqAt.asks ?_
  rw [X.is_ _ _ _ ht]
  by_cases hb : isS T [[91]] (nameS T s) = true
  · rw [if_pos hb, if_pos hb]
    refine SqAt.opens X ht _ (hmx.bind fun _ => (mono_shut X.lost _).bind fun _ => Mono.want X.lost (hmx.bind fun _ => mono_ended X.lost _ _)) ?_
    intro u u' hu
    refine SqAt.bind (hx _ _ hu) (fun _ => (mono_shut X.lost _).bind fun _ => Mono.want X.lost (hmx.bind fun _ => mono_ended X.lost _ _)) ?_
    intro y y' v v' hv hy
    refine SqAt.shuts X hv _ (Mono.want X.lost (hmx.bind fun _ => mono_ended X.lost _ _)) ?_
    intro z z' hz
    refine SqAt.both (rel_want X hz _) (hmx.bind fun _ => mono_ended X.lost _ _) ?_
    intro hq
    refine SqAt.bind (hx _ _ hq) (fun _ => mono_ended X.lost _ _) ?_
    intro g g' p p' hp hg
    exact sq_ended X hp hln (by rw [show y' = ph y from hy, show g' = ph g from hg]; rfl)
  · rw [if_neg hb, if_neg hb]
    refine SqAt.both (rel_want X ht _) ((mono_right X.lost hmx N).bind fun _ => mono_ended X.lost _ _) ?_
    intro hu
    refine SqAt.bind (sq_right X hx hmx hnl N _ _ hu) (fun _ => mono_ended X.lost _ _) ?_
    intro g g' p p' hp hg
    exact sq_ended X hp hln (by rw [show g' = ph g from hg]; rfl)
theorem sq_choice {ex ex' bl bl' : PM Int} (hx : SqF X ex ex') (hmx : Mono Lost ex) (hb : SqF X bl bl') (hmb : Mono Lost bl) {ln ln' : Int} (hln : RL ln ln') {s s' : PS} (hs : Rel s s') : SqAt Rel Lost (RI ph) (choiceM T ex bl ln) (choiceM T' ex' bl' ln') s s' := by
  unfold choiceM
  have hm1 : ∀ x y, Mono Lost (do let b ← ask (isS T [[101, 108, 115, 101]]); if b then (do mod (nextS T); let z ← bl; nodeM ⟨15, ln, 0, [], []⟩ [x, y, z]) else nodeM ⟨15, ln, 0, [], []⟩ [x, y] : PM Int) := fun x y => Mono.ask fun _ => Mono.both (Mono.next X.lost (hmb.bind fun _ => Mono.node X.lost _ _)) (Mono.node X.lost _ _)
  refine SqAt.both (X.next s s' hs) (hmx.bind fun _ => hmb.bind fun _ => hm1 _ _) ?_
  intro ht
  refine SqAt.bind (hx _ _ ht) (fun _ => hmb.bind fun _ => hm1 _ _) ?_
  intro x x' u u' hu hx'
  refine SqAt.bind (hb _ _ hu) (fun _ => hm1 _ _) ?_
  intro y y' v v' hv hy
  refine SqAt.asks ?_
  rw [X.is_ _ _ _ hv]
  by_cases h1 : isS T [[101, 108, 115, 101]] v = true
  · rw [if_pos h1, if_pos h1]
    refine SqAt.both (X.next _ _ hv) (hmb.bind fun _ => Mono.node X.lost _ _) ?_
    intro hq
    refine SqAt.bind (hb _ _ hq) (fun _ => Mono.node X.lost _ _) ?_
    intro z z' p p' hp hz
    exact SqAt.node X hp hln (by rw [show y' = ph y from hy, show x' = ph x from hx', show z' = ph z from hz]; rfl) _ _
  · rw [if_neg h1, if_neg h1]
    exact SqAt.node X hv hln (by rw [show y' = ph y from hy, show x' = ph x from hx']; rfl) _ _
theorem sq_statement {ex ex' bl bl' : PM Int} (hx : SqF X ex ex') (hmx : Mono Lost ex) (hnl : ∀ s r s1, (tokA T s).k = 3 → Lost (nextS T s) → ex s = some (r, s1) → Lost s1) (hb : SqF X bl bl') (hmb : Mono Lost bl) (N : Nat) : SqF X (statementM src T N ex bl) (statementM src' T' N ex' bl') := by
  intro s s' hs
  unfold statementM
  refine SqAt.asks ?_
  have hln := X.line s s' hs
  refine SqAt.asks ?_
  rw [X.is_ _ _ _ hs]
  by_cases h1 : isS T [[105, 102]] s = true
  · rw [if_pos h1, if_pos h1]
    exact sq_choice X hx hmx hb hmb hln hs
  rw [if_neg h1, if_neg h1]
  refine SqAt.asks ?_
  rw [X.is_ _ _ _ hs]
  by_cases h2 : isS T [[119, 104, 105, 108, 101]] s = true
  · rw [if_pos h2, if_pos h2]
    refine SqAt.both (X.next s s' hs) (hmx.bind fun _ => hmb.bind fun _ => Mono.node X.lost _ _) ?_
    intro ht
    refine SqAt.bind (hx _ _ ht) (fun _ => hmb.bind fun _ => Mono.node X.lost _ _) ?_
    intro x x' u u' hu hx'
    refine SqAt.bind (hb _ _ hu) (fun _ => Mono.node X.lost _ _) ?_
    intro y y' v v' hv hy
    exact SqAt.node X hv hln (by rw [show y' = ph y from hy, show x' = ph x from hx']; rfl) _ _
  rw [if_neg h2, if_neg h2]
  refine SqAt.asks ?_
  -- what stands behind the look whether it is a call
  have rest : SqAt Rel Lost (RI ph) (do
        let b ← ask (isS T [[112, 114, 105, 110, 116]])
        if b then (do
          mod (nextS T)
          let x ← ex
          endedM T ⟨14, lineS src T s, 0, [], []⟩ [x])
        else do
          let b ← ask (isS T [[114, 101, 116, 117, 114, 110]])
          if b then (do
            mod (nextS T)
            let b ← ask (isS T [[59]])
            if b then endedM T ⟨17, lineS src T s, 0, [], []⟩ [] else do
              let x ← ex
              endedM T ⟨17, lineS src T s, 0, [], []⟩ [x])
          else do
            let b ← ask (isS T [[108, 101, 116]])
            if b then (do
              mod (nextS T)
              let x ← ask (nameX T)
              mod (nameS T)
              mod (wantS T [61])
              let y ← rightM src T N ex
              endedM T ⟨10, lineS src T s, 0, x, []⟩ [y])
            else changeM src T N ex (lineS src T s) : PM Int) (do
        let b ← ask (isS T' [[112, 114, 105, 110, 116]])
        if b then (do
          mod (nextS T')
          let x ← ex'
          endedM T' ⟨14, lineS src' T' s', 0, [], []⟩ [x])
        else do
          let b ← ask (isS T' [[114, 101, 116, 117, 114, 110]])
          if b then (do
            mod (nextS T')
            let b ← ask (isS T' [[59]])
            if b then endedM T' ⟨17, lineS src' T' s', 0, [], []⟩ [] else do
              let x ← ex'
              endedM T' ⟨17, lineS src' T' s', 0, [], []⟩ [x])
          else do
            let b ← ask (isS T' [[108, 101, 116]])
            if b then (do
              mod (nextS T')
              let x ← ask (nameX T')
              mod (nameS T')
              mod (wantS T' [61])
              let y ← rightM src' T' N ex'
              endedM T' ⟨10, lineS src' T' s', 0, x, []⟩ [y])
            else changeM src' T' N ex' (lineS src' T' s') : PM Int) s s' := by
    refine SqAt.asks ?_
    rw [X.is_ _ _ _ hs]
    by_cases h3 : isS T [[112, 114, 105, 110, 116]] s = true
    · rw [if_pos h3, if_pos h3]
      refine SqAt.both (X.next s s' hs) (hmx.bind fun _ => mono_ended X.lost _ _) ?_
      intro ht
      refine SqAt.bind (hx _ _ ht) (fun _ => mono_ended X.lost _ _) ?_
      intro x x' u u' hu hx'
      exact sq_ended X hu hln (by rw [show x' = ph x from hx']; rfl)
    rw [if_neg h3, if_neg h3]
    refine SqAt.asks ?_
    rw [X.is_ _ _ _ hs]
    by_cases h4 : isS T [[114, 101, 116, 117, 114, 110]] s = true
    · rw [if_pos h4, if_pos h4]
      refine SqAt.both (X.next s s' hs) (Mono.ask fun _ => Mono.both (mono_ended X.lost _ _) (hmx.bind fun _ => mono_ended X.lost _ _)) ?_
      intro ht
      refine SqAt.asks ?_
      rw [X.is_ _ _ _ ht]
      by_cases h5 : isS T [[59]] (nextS T s) = true
      · rw [if_pos h5, if_pos h5]
        exact sq_ended X ht hln rfl
      · rw [if_neg h5, if_neg h5]
        refine SqAt.bind (hx _ _ ht) (fun _ => mono_ended X.lost _ _) ?_
        intro x x' u u' hu hx'
        exact sq_ended X hu hln (by rw [show x' = ph x from hx']; rfl)
    rw [if_neg h4, if_neg h4]
    refine SqAt.asks ?_
    rw [X.is_ _ _ _ hs]
    by_cases h5 : isS T [[108, 101, 116]] s = true
    · rw [if_pos h5, if_pos h5]
      refine SqAt.both (X.next s s' hs) (Mono.ask fun _ => Mono.name X.lost (Mono.want X.lost ((mono_right X.lost hmx N).bind fun _ => mono_ended X.lost _ _))) ?_
      intro ht
      refine SqAt.asks ?_
      rw [rel_nameX X ht]
      refine SqAt.both (rel_name X ht) (Mono.want X.lost ((mono_right X.lost hmx N).bind fun _ => mono_ended X.lost _ _)) ?_
      intro hu
      refine SqAt.both (rel_want X hu _) ((mono_right X.lost hmx N).bind fun _ => mono_ended X.lost _ _) ?_
      intro hv
      refine SqAt.bind (sq_right X hx hmx hnl N _ _ hv) (fun _ => mono_ended X.lost _ _) ?_
      intro g g' p p' hp hg
      exact sq_ended X hp hln (by rw [show g' = ph g from hg]; rfl)
    rw [if_neg h5, if_neg h5]
    exact sq_change X hx hmx hnl N hln hs
  rcases X.calls s s' hs with h3 | ⟨h3, hk, hl⟩
  · rw [h3]
    by_cases hc : callsS T s = true
    · rw [if_pos hc, if_pos hc]
      refine SqAt.bind (sq_call X hx hmx N s s' hs) (fun _ => mono_ended X.lost _ _) ?_
      intro x x' u u' hu hx'
      exact sq_ended X hu hln (by rw [show x' = ph x from hx']; rfl)
    · rw [if_neg hc, if_neg hc]
      exact rest
  · rw [h3, if_neg (by decide)]
    intro r s1 e
    refine .inl ?_
    have e : (if isS T [[112, 114, 105, 110, 116]] s then _ else _ : PM Int) s = some (r, s1) := e
    rw [isS_k3 hk, if_neg (by decide)] at e
    have e : (if isS T [[114, 101, 116, 117, 114, 110]] s then _ else _ : PM Int) s = some (r, s1) := e
    rw [isS_k3 hk, if_neg (by decide)] at e
    have e : (if isS T [[108, 101, 116]] s then _ else _ : PM Int) s = some (r, s1) := e
    rw [isS_k3 hk, if_neg (by decide)] at e
    unfold changeM at e
    have e : (do
      let b ← ask (isS T [[91]])
      if b then (do
        openM T [91]
        let y ← ex
        shutM T [93]
        mod (wantS T [61])
        let z ← ex
        endedM T ⟨12, lineS src T s, 0, nameX T s, []⟩ [y, z])
      else do
        mod (wantS T [61])
        let y ← rightM src T N ex
        endedM T ⟨11, lineS src T s, 0, nameX T s, []⟩ [y] : PM Int) (nameS T s) = some (r, s1) := e
    have hn : nameS T s = nextS T s := if_pos hk
    rw [hn] at e
    exact (Mono.ask fun _ => Mono.both ((mono_open X.lost _).bind fun _ => hmx.bind fun _ => (mono_shut X.lost _).bind fun _ => Mono.want X.lost (hmx.bind fun _ => mono_ended X.lost _ _)) (Mono.want X.lost ((mono_right X.lost hmx N).bind fun _ => mono_ended X.lost _ _))) _ r s1 hl e
theorem sq_stms {st st' : PM Int} (hst : SqF X st st') (hm : Mono Lost st) : ∀ n (l l' : List Int) s s', Rel s s' → l' = l.map ph → SqAt Rel Lost (RLs ph) (stmsR T st n l) (stmsR T' st' n l') s s' := by
  intro n
  induction n with
  | zero => intro l l' s s' _ _ r s1 e; cases e
  | succ n ih =>
    intro l l' s s' hs hl
    unfold stmsR
    refine SqAt.asks ?_
    rw [X.is_ _ _ _ hs, X.er _ _ hs]
    by_cases hb : (decide (s.er = 0) && !(isS T [[125]] s)) = true
    · rw [if_pos hb, if_pos hb]
      refine SqAt.bind (hst _ _ hs) (fun _ => mono_stms X.lost hm _ _) ?_
      intro x x' t t' ht hx
      exact ih _ _ t t' ht (by rw [hl, show x' = ph x from hx, List.map_append]; rfl)
    · rw [if_neg hb, if_neg hb]
      exact SqAt.ret hs hl
theorem sq_block {st st' : PM Int} (hst : SqF X st st') (hm : Mono Lost st) (N : Nat) : SqF X (blockM src T N st) (blockM src' T' N st') := by
  intro s s' hs
  unfold blockM
  refine SqAt.asks ?_
  have hln := X.line s s' hs
  refine SqAt.opens X hs _ ((mono_stms X.lost hm N _).bind fun _ => (mono_shut X.lost _).bind fun _ => Mono.node X.lost _ _) ?_
  intro t t' ht
  refine SqAt.bind (sq_stms X hst hm N [] [] t t' ht rfl) (fun _ => (mono_shut X.lost _).bind fun _ => Mono.node X.lost _ _) ?_
  intro l l' u u' hu hl
  refine SqAt.shuts X hu _ (Mono.node X.lost _ _) ?_
  intro v v' hv
  exact SqAt.node X hv hln hl _ _
theorem sq_st (N : Nat) : ∀ n, SqF X (stM src T N n) (stM src' T' N n) := by
  intro n
  induction n with
  | zero => intro s s' _ r s1 e; cases e
  | succ n ih => exact sq_statement X (sq_ex X N 0) (mono_ex X.lost N 0) (fun s r s1 => ex_name_lost X N 0 s r s1) (sq_block X ih (mono_st X.lost N n) N) (mono_block X.lost (mono_st X.lost N n) N) N
theorem sq_kind {s s' : PS} (hs : Rel s s') : SqAt Rel Lost (fun a b => b = a) (kindM T) (kindM T') s s' := by
  unfold kindM
  refine SqAt.asks ?_
  rw [X.is_ _ _ _ hs]
  by_cases hb : isS T [[105, 110, 116], [98, 111, 111, 108], [116, 101, 120, 116], [108, 105, 115, 116]] s = true
  · rw [if_pos hb, if_pos hb]
    refine SqAt.asks ?_
    rw [(X.tok _ _ hs).2]
    exact SqAt.both (X.next _ _ hs) Mono.ret (fun h => SqAt.ret h rfl)
  · rw [if_neg hb, if_neg hb]
    exact SqAt.both (X.fail _ _ 20 hs (by decide)) Mono.ret (fun h => SqAt.ret h rfl)
theorem sq_param {s s' : PS} (hs : Rel s s') : SqAt Rel Lost (fun a b => b = a) (paramM T) (paramM T') s s' := by
  unfold paramM
  refine SqAt.asks ?_
  rw [rel_nameX X hs]
  refine SqAt.both (rel_name X hs) ((mono_kind X.lost).bind fun _ => Mono.ret) ?_
  intro ht
  refine SqAt.bind (sq_kind X ht) (fun _ => Mono.ret) ?_
  intro a a' u u' hu ha
  exact SqAt.ret hu (by rw [show a' = a from ha])
theorem sq_params : ∀ n (l : List (List UInt8 × Int)) s s', Rel s s' → SqAt Rel Lost (fun a b => b = a) (paramsR T n l) (paramsR T' n l) s s' := by
  intro n
  induction n with
  | zero => intro l s s' _ r s1 e; cases e
  | succ n ih =>
    intro l s s' hs
    unfold paramsR
    refine SqAt.asks ?_
    rw [X.is_ _ _ _ hs]
    by_cases hb : isS T [[44]] s = true
    · rw [if_pos hb, if_pos hb]
      refine SqAt.both (X.next _ _ hs) ((mono_param X.lost).bind fun _ => mono_params X.lost _ _) ?_
      intro ht
      refine SqAt.bind (sq_param X ht) (fun _ => mono_params X.lost _ _) ?_
      intro a a' u u' hu ha
      rw [show a' = a from ha]
      exact ih _ u u' hu
    · rw [if_neg hb, if_neg hb]
      exact SqAt.ret hs rfl
theorem sq_paramsM (N : Nat) {s s' : PS} (hs : Rel s s') : SqAt Rel Lost (fun a b => b = a) (paramsM T N) (paramsM T' N) s s' := by
  unfold paramsM
  refine SqAt.asks ?_
  rw [X.is_ _ _ _ hs]
  by_cases hb : isS T [[41]] s = true
  · rw [if_pos hb, if_pos hb]
    exact SqAt.ret hs rfl
  · rw [if_neg hb, if_neg hb]
    refine SqAt.bind (sq_param X hs) (fun _ => mono_params X.lost _ _) ?_
    intro a a' u u' hu ha
    rw [show a' = a from ha]
    exact sq_params X N _ u u' hu
theorem sq_ret {s s' : PS} (hs : Rel s s') : SqAt Rel Lost (fun a b => b = a) (retM T) (retM T') s s' := by
  unfold retM
  refine SqAt.asks ?_
  rw [X.is_ _ _ _ hs]
  by_cases hb : isS T [[123]] s = true
  · rw [if_pos hb, if_pos hb]
    exact SqAt.ret hs rfl
  · rw [if_neg hb, if_neg hb]
    exact sq_kind X hs
theorem sq_function (N : Nat) {s s' : PS} (hs : Rel s s') : SqAt Rel Lost (RF ph RL) (functionM src T N) (functionM src' T' N) s s' := by
  unfold functionM
  refine SqAt.asks ?_
  have hln := X.line s s' hs
  have hm1 : ∀ (x : List UInt8) ps, Mono Lost (do mod (wantS T [41]); let r ← retM T; let y ← blockM src T N (stM src T N N); pure (⟨x, lineS src T s, ps, r, y⟩ : Fnc) : PM Fnc) := fun x ps => Mono.want X.lost ((mono_ret X.lost).bind fun _ => (mono_block X.lost (mono_st X.lost N N) N).bind fun _ => Mono.ret)
  refine SqAt.both (rel_want X hs _) (Mono.ask fun _ => Mono.name X.lost (Mono.want X.lost ((mono_paramsM X.lost N).bind fun _ => hm1 _ _))) ?_
  intro ht
  refine SqAt.asks ?_
  rw [rel_nameX X ht]
  refine SqAt.both (rel_name X ht) (Mono.want X.lost ((mono_paramsM X.lost N).bind fun _ => hm1 _ _)) ?_
  intro hu
  refine SqAt.both (rel_want X hu _) ((mono_paramsM X.lost N).bind fun _ => hm1 _ _) ?_
  intro hv
  refine SqAt.bind (sq_paramsM X N hv) (fun _ => hm1 _ _) ?_
  intro ps ps' w w' hw hps
  rw [show ps' = ps from hps]
  refine SqAt.both (rel_want X hw _) ((mono_ret X.lost).bind fun _ => (mono_block X.lost (mono_st X.lost N N) N).bind fun _ => Mono.ret) ?_
  intro hz
  refine SqAt.bind (sq_ret X hz) (fun _ => (mono_block X.lost (mono_st X.lost N N) N).bind fun _ => Mono.ret) ?_
  intro r r' p p' hp hr
  rw [show r' = r from hr]
  refine SqAt.bind (sq_block X (sq_st X N N) (mono_st X.lost N N) N p p' hp) (fun _ => Mono.ret) ?_
  intro y y' q q' hq hy
  exact SqAt.ret hq ⟨rfl, hln, rfl, rfl, hy⟩
/-- All functions, where both runs end together. -/
theorem sq_fns (hz : ∀ s s', Rel s s' → ((tokA T' s').k = 0 ↔ (tokA T s).k = 0)) (N : Nat) : ∀ n (l l' : List Fnc) s s', Rel s s' → RFs ph RL l l' → SqAt Rel Lost (RFs ph RL) (fnsR src T N n l) (fnsR src' T' N n l') s s' := by
  intro n
  induction n with
  | zero => intro l l' s s' _ _ r s1 e; cases e
  | succ n ih =>
    intro l l' s s' hs hl
    unfold fnsR
    refine SqAt.asks ?_
    rw [X.er _ _ hs, show decide ((tokA T' s').k = 0) = decide ((tokA T s).k = 0) from decide_eq_decide.2 (hz s s' hs)]
    by_cases hb : (decide (s.er = 0) && !(decide ((tokA T s).k = 0))) = true
    · rw [if_pos hb, if_pos hb]
      refine SqAt.bind (sq_function X N hs) (fun _ => mono_fns X.lost N _ _) ?_
      intro x x' t t' ht hx
      exact ih _ _ t t' ht (hl.more hx)
    · rw [if_neg hb, if_neg hb]
      exact SqAt.ret hs hl
end
end Go.Proofs.YtgelggdgbmldiaaDoor

namespace Go.Proofs.YtgelggdgbmldiaaDoor
set_option linter.unusedVariables false
set_option linter.unusedSimpArgs false
theorem run10 (p : UInt8 → Bool) (hp : p 10 = false) (a b : List UInt8) : runL p (a ++ 10 :: b) = runL p a := by
  induction a with
  | nil => exact runL_cons_false p 10 b hp
  | cons c r ih =>
    rw [List.cons_append]
    unfold runL
    rw [ih]
theorem take10 (p : UInt8 → Bool) (a b : List UInt8) : (a ++ 10 :: b).take (runL p a) = a.take (runL p a) := List.take_append_of_le_length (runL_le p a)
theorem get10 {a b : List UInt8} {k : Nat} {c : UInt8} (hc : c ≠ 10) (p : UInt8 → Bool) (hp : p 10 = false) : (a ++ 10 :: b)[runL p a]? = some c ↔ a[runL p a]? = some c := by
  by_cases h : runL p a < a.length
  · rw [List.getElem?_append_left h]
  · have h1 : runL p a = a.length := by have := runL_le p a; omega
    rw [h1, List.getElem?_append_right (Nat.le_refl _), Nat.sub_self]
    simp
    exact fun e => hc e.symm
theorem two10 (c : UInt8) (r b : List UInt8) : isTwo ((c :: r) ++ 10 :: b) = isTwo (c :: r) := by
  cases r with
  | nil => simp [isTwo, twosL, List.isPrefixOf]
  | cons d r => simp [isTwo, twosL, List.isPrefixOf]
theorem rem10 (c : UInt8) (r b : List UInt8) : isRem ((c :: r) ++ 10 :: b) = isRem (c :: r) := by
  cases r with
  | nil => simp [isRem, List.isPrefixOf]
  | cons d r => simp [isRem, List.isPrefixOf]
theorem first10 (c : UInt8) (r b : List UInt8) : firstL ((c :: r) ++ 10 :: b) = firstL (c :: r) := by
  have h1 := run10 dig (by decide) (c :: r) b
  have h2 := run10 nmc (by decide) (c :: r) b
  have h3 := run10 txc (by decide) r b
  have e : ((c :: r) ++ 10 :: b) = c :: (r ++ 10 :: b) := rfl
  rw [e, firstL_cons, firstL_cons, ← e]
  have n1 : numberL ((c :: r) ++ 10 :: b) = numberL (c :: r) := by unfold numberL; rw [h1, take10]
  have n2 : nameL ((c :: r) ++ 10 :: b) = nameL (c :: r) := by unfold nameL; rw [h2, take10]
  have n3 : textL (r ++ 10 :: b) = textL r := by
    unfold textL
    rw [h3]
    by_cases hq : r[runL txc r]? = some 34
    · rw [if_pos hq, if_pos ((get10 (k := 0) (by decide) txc (by decide)).mpr hq)]
    · rw [if_neg hq, if_neg (fun h => hq ((get10 (k := 0) (by decide) txc (by decide)).mp h))]
  have n4 : signL ((c :: r) ++ 10 :: b) = signL (c :: r) := by
    rw [e, signL_cons, signL_cons, ← e, two10]
  rw [n1, n2, n3, n4]
/-- The tokens of a source, behind it a new line and another one. -/
theorem lexL_both (b : List UInt8) (l : List UInt8) (p : Nat) : (lexL l p).2 = none → ∃ init, (lexL l p).1 = init ++ [⟨0, [], p + l.length⟩] ∧ lexL (l ++ 10 :: b) p = (init ++ (lexL b (p + l.length + 1)).1, (lexL b (p + l.length + 1)).2) := by
  have hb10 : blk 10 = true := by decide
  refine lexL_ind (P := fun l p => (lexL l p).2 = none → ∃ init, (lexL l p).1 = init ++ [⟨0, [], p + l.length⟩] ∧ lexL (l ++ 10 :: b) p = (init ++ (lexL b (p + l.length + 1)).1, (lexL b (p + l.length + 1)).2)) ?_ ?_ ?_ ?_ ?_ ?_ l p
  · intro p _
    exact ⟨[], rfl, by rw [List.nil_append, lexL_blank hb10]; rfl⟩
  · intro c r p h0 ih hn
    rw [lexL_blank h0] at hn ⊢
    obtain ⟨init, h1, h2⟩ := ih hn
    rw [List.cons_append, lexL_blank h0, List.length_cons]
    rw [show p + 1 + r.length = p + (r.length + 1) by omega] at h1 h2
    exact ⟨init, h1, h2⟩
  · intro c r p h0 h1 h2 hn
    rw [lexL_rem_end h0 h1 h2] at hn ⊢
    refine ⟨[], rfl, ?_⟩
    have h3 := run10 (fun d => !decide (d = 10)) (by decide) (c :: r) b
    have h4 : isRem (c :: (r ++ 10 :: b)) = true := (rem10 c r b).trans h1
    rw [List.cons_append] at h3 ⊢
    rw [lexL_rem h0 h4 (by rw [h3, h2]; simp), h3, h2]
    rw [show (c :: (r ++ 10 :: b)).drop (c :: r).length = 10 :: b by rw [← List.cons_append, List.drop_left], lexL_blank hb10]
    rfl
  · intro c r p h0 h1 h2 ih hn
    rw [lexL_rem h0 h1 h2] at hn ⊢
    obtain ⟨init, i1, i2⟩ := ih hn
    have hle := runL_le (fun d => !decide (d = 10)) (c :: r)
    have h3 := run10 (fun d => !decide (d = 10)) (by decide) (c :: r) b
    have h4 : isRem (c :: (r ++ 10 :: b)) = true := (rem10 c r b).trans h1
    rw [List.cons_append] at h3 ⊢
    rw [List.length_drop] at i1 i2
    rw [show p + runL (fun d => !decide (d = 10)) (c :: r) + ((c :: r).length - runL (fun d => !decide (d = 10)) (c :: r)) = p + (c :: r).length by omega] at i1 i2
    refine ⟨init, i1, ?_⟩
    rw [lexL_rem h0 h4 (by rw [h3]; simp at hle ⊢; omega), h3, ← List.cons_append, List.drop_append_of_le_length hle]
    exact i2
  · intro c r p h0 h1 h2 hn
    rw [lexL_bad h0 h1 h2] at hn
    cases hn
  · intro c r p h0 h1 h2 ih hn
    rw [lexL_tok h0 h1 h2] at hn ⊢
    obtain ⟨init, i1, i2⟩ := ih hn
    have hsz := first_size (c :: r) (by simp) h2
    have h4 : isRem (c :: (r ++ 10 :: b)) = false := (rem10 c r b).trans h1
    have h5 : firstL (c :: (r ++ 10 :: b)) = firstL (c :: r) := first10 c r b
    rw [List.length_drop] at i1 i2
    rw [show p + (firstL (c :: r)).2.1 + ((c :: r).length - (firstL (c :: r)).2.1) = p + (c :: r).length by omega] at i1 i2
    refine ⟨_ :: init, by rw [i1]; rfl, ?_⟩
    rw [List.cons_append, lexL_tok h0 h4 (by rw [h5]; exact h2), h5, ← List.cons_append, List.drop_append_of_le_length hsz.2, i2, List.take_append_of_le_length hsz.2]
    rfl
end Go.Proofs.YtgelggdgbmldiaaDoor

namespace Go.Proofs.YtgelggdgbmldiaaDoor
set_option linter.unusedVariables false
set_option linter.unusedSimpArgs false
/-- A node without its line. -/
def un (n : Nd) : Nd := { n with ln := 0 }
/-- Two rows of tokens that are the same ahead of the first one's end. -/
structure Pre (T T' : List Tok) (E A : Nat) : Prop where
  len : T.length = E + 1
  len' : E < T'.length
  big : T'.length ≤ 1000
  same : ∀ i, i < E → T'.getD i default = T.getD i default
  inner : ∀ i, i < E → (T.getD i default).k ≠ 0
  k0 : (T.getD E default).k = 0
  x0 : (T.getD E default).x = []
  p0 : (T.getD E default).p = A
  k0' : (T'.getD (T'.length - 1) default).k = 0
  x0' : (T'.getD (T'.length - 1) default).x = []
def PreR (E E' : Nat) (s s' : PS) : Prop := s'.er = s.er ∧ s'.pl = s.pl ∧ s'.dp = s.dp ∧ s'.nd.map un = s.nd.map un ∧ ((s.er = 0 ∧ s.i < E ∧ s'.i = s.i) ∨ (s.er ≠ 0 ∧ s.i = E ∧ s'.i = E'))
def PreL (E A : Nat) (s : PS) : Prop := (s.er = 0 ∧ s.i = E) ∨ (s.er ≠ 0 ∧ s.pl = A)
section
variable {src src' : List UInt8} {T T' : List Tok} {E A : Nat}
theorem pre_lost (h : Pre T T' E A) : LostP T (PreL E A) := by
  have hl := h.len
  refine ⟨?_, ?_, ?_, ?_⟩
  · intro s hs
    rcases hs with ⟨h1, h2⟩ | ⟨h1, h2⟩
    · have : nextS T s = s := if_neg (by omega)
      rw [this]
      exact .inl ⟨h1, h2⟩
    · unfold nextS
      split
      · exact .inr ⟨h1, h2⟩
      · exact .inr ⟨h1, h2⟩
  · intro s e hs he
    rcases hs with ⟨h1, h2⟩ | ⟨h1, h2⟩
    · have : failS T e s = { s with pl := (tokA T s).p, er := e, i := T.length - 1 } := if_pos h1
      rw [this]
      refine .inr ⟨by show e ≠ 0; omega, ?_⟩
      show (tokA T s).p = A
      unfold tokA
      rw [h2]
      exact h.p0
    · have : failS T e s = s := if_neg h1
      rw [this]
      exact .inr ⟨h1, h2⟩
  · intro s d hs
    exact hs
  · intro s n hs
    exact hs
theorem pre_tok (h : Pre T T' E A) {s s' : PS} (hs : PreR E (T'.length - 1) s s') : (tokA T' s').k = (tokA T s).k ∧ (tokA T' s').x = (tokA T s).x := by
  obtain ⟨_, _, _, _, ⟨h1, h2, h3⟩ | ⟨h1, h2, h3⟩⟩ := hs
  · unfold tokA
    rw [h3, h.same _ h2]
    exact ⟨rfl, rfl⟩
  · unfold tokA
    rw [h3, h2, h.k0, h.x0, h.k0', h.x0']
    exact ⟨rfl, rfl⟩
theorem pre_prim (h : Pre T T' E A) : Prim src src' T T' (PreR E (T'.length - 1)) (PreL E A) (fun x => x) (fun _ _ => True) where
  lost := pre_lost h
  is_ := fun s s' ts hs => by
    obtain ⟨h1, h2⟩ := pre_tok h hs
    unfold isS
    rw [h1, h2]
  tok := fun s s' hs => pre_tok h hs
  calls := fun s s' hs => by
    have ht := (pre_tok h hs).1
    obtain ⟨_, _, _, _, ⟨h1, h2, h3⟩ | ⟨h1, h2, h3⟩⟩ := hs
    · by_cases hk : (tokA T s).k = 3
      · by_cases hi : s.i + 1 < E
        · left
          unfold callsS
          rw [ht, h3, h.same _ hi]
        · right
          have he : s.i + 1 = E := by omega
          refine ⟨?_, hk, ?_⟩
          · unfold callsS
            rw [he, h.k0]
            simp
          · have hl := h.len
            have : nextS T s = { s with i := s.i + 1 } := if_pos (by omega)
            rw [this]
            exact .inl ⟨h1, he⟩
      · left
        unfold callsS
        rw [ht, decide_eq_false hk, Bool.false_and, Bool.false_and]
    · left
      unfold callsS
      have : (tokA T s).k = 0 := by unfold tokA; rw [h2]; exact h.k0
      rw [ht, this]
      rfl
  line := fun _ _ _ => trivial
  er := fun s s' hs => by rw [hs.1]
  next := fun s s' hs => by
    have hl := h.len
    have hl' := h.len'
    obtain ⟨a1, a2, a3, a4, ⟨h1, h2, h3⟩ | ⟨h1, h2, h3⟩⟩ := hs
    · have e1 : nextS T s = { s with i := s.i + 1 } := if_pos (by omega)
      have e2 : nextS T' s' = { s' with i := s'.i + 1 } := if_pos (by omega)
      rw [e1, e2]
      by_cases hi : s.i + 1 < E
      · exact .inr ⟨a1, a2, a3, a4, .inl ⟨h1, hi, by show s'.i + 1 = s.i + 1; omega⟩⟩
      · exact .inl (.inl ⟨h1, by show s.i + 1 = E; omega⟩)
    · have e1 : nextS T s = s := if_neg (by omega)
      have e2 : nextS T' s' = s' := if_neg (by omega)
      rw [e1, e2]
      exact .inr ⟨a1, a2, a3, a4, .inr ⟨h1, h2, h3⟩⟩
  fail := fun s s' e hs he => by
    have hl := h.len
    obtain ⟨a1, a2, a3, a4, ⟨h1, h2, h3⟩ | ⟨h1, h2, h3⟩⟩ := hs
    · have e1 : failS T e s = { s with pl := (tokA T s).p, er := e, i := T.length - 1 } := if_pos h1
      have e2 : failS T' e s' = { s' with pl := (tokA T' s').p, er := e, i := T'.length - 1 } := if_pos (by rw [a1]; exact h1)
      rw [e1, e2]
      refine .inr ⟨rfl, ?_, a3, a4, .inr ⟨by show e ≠ 0; omega, by show T.length - 1 = E; omega, rfl⟩⟩
      show (tokA T' s').p = (tokA T s).p
      unfold tokA
      rw [h3, h.same _ h2]
    · have e1 : failS T e s = s := if_neg h1
      have e2 : failS T' e s' = s' := if_neg (by rw [a1]; exact h1)
      rw [e1, e2]
      exact .inr ⟨a1, a2, a3, a4, .inr ⟨h1, h2, h3⟩⟩
  dp := fun s s' hs => by
    obtain ⟨a1, a2, a3, a4, a5⟩ := hs
    exact ⟨a3, fun d => ⟨a1, a2, rfl, a4, a5⟩⟩
  node := fun s s' k ln ln' n x l hs _ hb => by
    obtain ⟨a1, a2, a3, a4, a5⟩ := hs
    have hlen : s'.nd.length = s.nd.length := by have := congrArg List.length a4; rwa [List.length_map, List.length_map] at this
    refine .inr ⟨by omega, by rw [hlen], a1, a2, a3, ?_, a5⟩
    show (s'.nd ++ [_]).map un = (s.nd ++ [_]).map un
    rw [List.map_append, List.map_append, a4, List.map_id']
    rfl
theorem pre_zero (h : Pre T T' E A) : ∀ s s', PreR E (T'.length - 1) s s' → ((tokA T' s').k = 0 ↔ (tokA T s).k = 0) := fun s s' hs => by rw [(pre_tok h hs).1]
/-- What errors there are, and where. -/
def ErrL (T : List Tok) (s : PS) : Prop := s.i < T.length ∧ (s.er = 0 ∨ ((s.er = 20 ∨ s.er = 21) ∧ ∃ i, i < T.length ∧ s.pl = (T.getD i default).p))
theorem err_lost (T : List Tok) (hT : 0 < T.length) : LostP T (ErrL T) := by
  refine ⟨?_, ?_, ?_, ?_⟩
  · intro s hs
    obtain ⟨h1, h2⟩ := hs
    unfold nextS
    split
    · exact ⟨by show s.i + 1 < T.length; omega, h2⟩
    · exact ⟨h1, h2⟩
  · intro s e hs he
    obtain ⟨h1, h2⟩ := hs
    unfold failS
    split
    · exact ⟨by show T.length - 1 < T.length; omega, .inr ⟨he, s.i, h1, rfl⟩⟩
    · exact ⟨h1, h2⟩
  · intro s d hs; exact hs
  · intro s n hs; exact hs
end
theorem pre_of (a b : List UInt8) (ha : a.length ≤ 600) (hn : (lexL a 0).2 = none) (hb : (lexL (a ++ 10 :: b) 0).2 = none) (hl : (a ++ 10 :: b).length ≤ 900) : ∃ E, Pre (lexL a 0).1 (lexL (a ++ 10 :: b) 0).1 E a.length := by
  obtain ⟨init, h1, h2⟩ := lexL_both b a 0 hn
  have hB := lexL_endT (a ++ 10 :: b) hl hb
  obtain ⟨I, e, hI, hk, hx, _, hin⟩ := lex_tokL a.length a 0 (by omega) hn
  obtain ⟨I', e', hI', hk', hx', _, _⟩ := lex_tokL (a ++ 10 :: b).length (a ++ 10 :: b) 0 (by omega) hb
  obtain ⟨rfl, rfl⟩ : I = init ∧ e = ⟨0, [], 0 + a.length⟩ := by
    have := hI.symm.trans h1
    have h3 := List.append_inj' this rfl
    exact ⟨h3.1, List.singleton_inj.1 h3.2⟩
  have ne : (lexL b (0 + a.length + 1)).1 ≠ [] := by
    intro h0
    rw [h2, h0, List.append_nil] at hI'
    have h3 := congrArg (fun l : List Tok => l.getLast?) hI'
    simp only [List.getLast?_append, List.getLast?_singleton] at h3
    have h4 : I ≠ [] := by intro h; rw [h] at hI'; simp at hI'
    rw [List.getLast?_eq_some_getLast h4] at h3
    have h5 := hin _ (List.getLast_mem h4)
    simp at h3
    rw [h3] at h5
    exact h5.1 hk'
  refine ⟨I.length, ?_⟩
  have hE' : (lexL (a ++ 10 :: b) 0).1.length - 1 = I'.length := by rw [hI']; simp
  refine ⟨by rw [hI]; simp, ?_, hB.2.1, ?_, ?_, ?_, ?_, ?_, ?_, ?_⟩
  · rw [h2]
    show I.length < (I ++ _).length
    rw [List.length_append]
    have := List.length_pos_iff.mpr ne
    omega
  · intro i hi
    rw [h2, hI]
    show (I ++ _).getD i default = _
    rw [List.getD, List.getD, List.getElem?_append_left hi, List.getElem?_append_left hi]
  · intro i hi
    rw [hI, List.getD, List.getElem?_append_left hi, List.getElem?_eq_getElem hi]
    exact (hin _ (List.getElem_mem hi)).1
  · rw [hI]; simp [List.getD]
  · rw [hI]; simp [List.getD]
  · rw [hI]; simp [List.getD]
  · rw [hE', hI']; simpa [List.getD] using hk'
  · rw [hE', hI']; simpa [List.getD] using hx'
/-- What is refused at a token stays so, whatever stands behind it. -/
theorem refused (a b : List UInt8) (N : Nat) (hN : 6100 ≤ N) (p e : Nat) (h : allP N a = some (.inl (p, e))) (ha : a.length ≤ 600) (hn : (lexL a 0).2 = none) (he : e ≠ 4) :
    (e = 20 ∨ e = 21) ∧ (∃ i, i < (lexL a 0).1.length ∧ p = ((lexL a 0).1.getD i default).p) ∧ (p ≠ a.length → (a ++ 10 :: b).length ≤ 600 → (lexL (a ++ 10 :: b) 0).2 = none → allP N (a ++ 10 :: b) = some (.inl (p, e))) := by
  have hT := lexL_endT a (by omega) hn
  unfold allP at h
  rw [if_neg (by omega), hn] at h
  cases hm : fnsR a (lexL a 0).1 N N [] ⟨0, 0, 0, [], 0⟩ with
  | none => rw [hm] at h; cases h
  | some r =>
    rw [hm] at h
    obtain ⟨fs, s1⟩ := r
    have h : treeP fs s1 = .inl (p, e) := Option.some.inj h
    have h0 : s1.er ≠ 0 := by
      intro h0
      unfold treeP at h
      rw [if_pos h0] at h
      split at h
      · injection h with h
        injection h with h1 h2
        exact he h2.symm
      · cases h
    unfold treeP at h
    rw [if_neg h0] at h
    injection h with h
    injection h with hp he2
    have hE := mono_fns (src := a) (err_lost (lexL a 0).1 hT.1) N N [] ⟨0, 0, 0, [], 0⟩ fs s1 ⟨hT.1, .inl rfl⟩ hm
    obtain ⟨_, hE⟩ := hE
    rcases hE with hE | ⟨h1, i, hi, h2⟩
    · exact absurd hE h0
    · refine ⟨by rw [← he2]; exact h1, ⟨i, hi, by rw [← hp]; exact h2⟩, fun hpa hlen hb => ?_⟩
      obtain ⟨E, hpre⟩ := pre_of a b ha hn hb (by omega)
      have X := pre_prim (src := a) (src' := a ++ 10 :: b) hpre
      have notlost : ¬ PreL E a.length s1 := by
        rintro (⟨h3, _⟩ | ⟨_, h3⟩)
        · exact h0 h3
        · exact hpa (by rw [← hp]; exact h3)
      by_cases hE0 : 0 < E
      · rcases sq_fns X (pre_zero hpre) N N [] [] ⟨0, 0, 0, [], 0⟩ ⟨0, 0, 0, [], 0⟩ ⟨rfl, rfl, rfl, rfl, .inl ⟨rfl, hE0, rfl⟩⟩ trivial fs s1 hm with hl | ⟨fs', s1', h3, h4, _⟩
        · exact absurd hl notlost
        · unfold allP
          rw [if_neg (by omega), hb]
          show (fnsR (a ++ 10 :: b) (lexL (a ++ 10 :: b) 0).1 N N [] ⟨0, 0, 0, [], 0⟩).map (fun p => treeP p.1 p.2) = _
          rw [h3]
          show some (treeP fs' s1') = _
          unfold treeP
          rw [if_neg (by rw [h4.1]; exact h0), h4.1, h4.2.1, hp, he2]
      · have hl := mono_fns (src := a) X.lost N N [] ⟨0, 0, 0, [], 0⟩ fs s1 (.inl ⟨rfl, by show 0 = E; omega⟩) hm
        exact absurd hl notlost
end Go.Proofs.YtgelggdgbmldiaaDoor

namespace Go.Proofs.YtgelggdgbmldiaaDoor
set_option linter.unusedVariables false
set_option linter.unusedSimpArgs false
section
variable {src src' : List UInt8} {T T' : List Tok} {E A : Nat}
end
/-- What a tree is told for. -/
theorem tree_out {N : Nat} {a : List UInt8} {nd : List Nd} {fs : List Fnc} (hN : 6100 ≤ N) (h : allP N a = some (.inr (nd, fs))) : a.length ≤ 600 ∧ (lexL a 0).2 = none ∧ ∃ s1, fnsR a (lexL a 0).1 N N [] ⟨0, 0, 0, [], 0⟩ = some (fs, s1) ∧ s1.er = 0 ∧ s1.nd = nd ∧ s1.dp = 0 ∧ nd.length ≤ 300 ∧ fs.length ≤ 6 ∧ fs.any (fun f => decide (3 < f.ps.length)) = false := by
  unfold allP at h
  split at h
  · cases h
  rename_i hb
  cases hn : (lexL a 0).2 with
  | some pe => rw [hn] at h; cases h
  | none =>
    rw [hn] at h
    refine ⟨by omega, rfl, ?_⟩
    cases hm : fnsR a (lexL a 0).1 N N [] ⟨0, 0, 0, [], 0⟩ with
    | none => rw [hm] at h; cases h
    | some r =>
      rw [hm] at h
      obtain ⟨l, s1⟩ := r
      have h1 : treeP l s1 = .inr (nd, fs) := Option.some.inj h
      have hT := lexL_endT a (by omega) hn
      have hle : (lexL a 0).1.length ≤ 601 := by have := lexL_len a 0; omega
      have hmu : mu (lexL a 0).1 ⟨0, 0, 0, [], 0⟩ = (lexL a 0).1.length := rfl
      obtain ⟨fs2, s2, h3, h4⟩ := fns_runs (src := a) hT (N := N) N [] ⟨0, 0, 0, [], 0⟩ ⟨⟨hT.1, fun h => absurd rfl h⟩, by decide, by rw [hmu]; show (0 : Int) + _ ≤ _; omega, by rw [hmu]; show 0 + _ ≤ _; omega⟩ (by rw [hmu]; omega) (by rw [hmu]; omega)
      rw [hm] at h3
      injection h3 with h3
      injection h3 with h5 h6
      subst h6
      have hdp : s1.dp = 0 := h4.2.2.2
      unfold treeP at h1
      split at h1
      · rename_i h0
        split at h1
        · cases h1
        · rename_i hc
          injection h1 with h1
          injection h1 with h7 h8
          subst h7; subst h8
          simp only [Bool.or_eq_true, decide_eq_true_eq, not_or] at hc
          exact ⟨s1, rfl, h0, rfl, hdp, by omega, by omega, by simpa using hc.2⟩
      · cases h1
end Go.Proofs.YtgelggdgbmldiaaDoor

namespace Go.Proofs.YtgelggdgbmldiaaDoor
set_option linter.unusedVariables false
set_option linter.unusedSimpArgs false
section
variable {src src' : List UInt8} {T T' : List Tok}
end
/-- A function without its line. -/
def unF (f : Fnc) : Fnc := { f with ln := 0 }
end Go.Proofs.YtgelggdgbmldiaaDoor
