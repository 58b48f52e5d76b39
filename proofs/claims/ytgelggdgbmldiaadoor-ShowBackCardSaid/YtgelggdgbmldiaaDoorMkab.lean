/-
  Layer 2: the nodes that the program's parser makes stand as they should. Written by an AI agent.
  Layer 2: the data of the program's parser comes to an end. Written by an AI agent.
-/
import Derived.Test.YtgelggdgbmldiaaDoorMkaa
namespace Go.Proofs.YtgelggdgbmldiaaDoor
set_option linter.unusedVariables false
set_option linter.unusedSimpArgs false
def Part {α : Type} (m : PM α) (s : PS) (Q : α → PS → Prop) : Prop := ∀ a s', m s = some (a, s') → Q a s'
theorem Part.bind {α β : Type} {m : PM α} {f : α → PM β} {s : PS} {R : α → PS → Prop} {Q : β → PS → Prop} (h : Part m s R) (h2 : ∀ a s', R a s' → Part (f a) s' Q) : Part (m >>= f) s Q := by
  intro b s2 hb
  obtain ⟨a, s1, h1, h3⟩ := bind_out hb
  exact h2 a s1 (h a s1 h1) b s2 h3
theorem Part.pure {α : Type} {a : α} {s : PS} {Q : α → PS → Prop} (h : Q a s) : Part (pure a) s Q := by
  intro b s2 hb
  have := pure_out hb
  cases this
  exact h
theorem Part.none {α : Type} {s : PS} {Q : α → PS → Prop} : Part (fun _ => none) s Q := by
  intro b s2 hb
  cases hb
theorem Part.ask {α β : Type} {g : PS → α} {f : α → PM β} {s : PS} {Q : β → PS → Prop} (h : Part (f (g s)) s Q) : Part (ask g >>= f) s Q :=
  Part.bind (R := fun a s' => a = g s ∧ s' = s) (by intro a s' h; cases h; exact ⟨rfl, rfl⟩) (by rintro a s' ⟨rfl, rfl⟩; exact h)
theorem Part.mod {β : Type} {g : PS → PS} {f : Unit → PM β} {s : PS} {Q : β → PS → Prop} (h : Part (f ()) (g s) Q) : Part (mod g >>= f) s Q :=
  Part.bind (R := fun a s' => s' = g s) (by intro a s' h; cases h; rfl) (by rintro a s' rfl; exact h)
theorem Part.mono {α : Type} {m : PM α} {s : PS} {Q R : α → PS → Prop} (h : Part m s Q) (k : ∀ a s', Q a s' → R a s') : Part m s R :=
  fun a s' he => k a s' (h a s' he)
/-- How many are below a node of a kind. -/
def manyK (k : Int) (n : Nat) : Bool :=
  (decide (k = 1 ∨ k = 2 ∨ k = 3 ∨ k = 4 ∨ k = 19) && decide (n = 0)) || (decide (k = 5 ∨ k = 6 ∨ k = 7 ∨ k = 8 ∨ k = 10 ∨ k = 11 ∨ k = 13 ∨ k = 14 ∨ k = 20) && decide (n = 1)) ||
  (decide (k = 9 ∨ k = 12 ∨ k = 16) && decide (n = 2)) || (decide (k = 15) && decide (n = 2 ∨ n = 3)) || (decide (k = 17) && decide (n ≤ 1)) || decide (k = 18 ∨ k = 21)
/-- Nodes from a place on, and which of them have none above. -/
inductive Fo : Nat → List Nd → List Int → Prop
  | nil (b : Nat) : Fo b [] []
  | cat {b : Nat} {nd nd' : List Nd} {xs ys : List Int} : Fo b nd xs → Fo (b + nd.length) nd' ys → Fo b (nd ++ nd') (xs ++ ys)
  | node {b : Nat} {nd : List Nd} (n : Nd) : Fo b nd n.l → (∀ m ∈ nd, n.ln ≤ m.ln) → manyK n.k n.l.length = true → Fo b (nd ++ [n]) [((b + nd.length : Nat) : Int)]
section
variable (src : List UInt8) (T : List Tok)
/-- Lines rise. -/
def LnT : Prop := 0 < T.length ∧ ∀ i j, i ≤ j → j < T.length → lineL src ((T.getD i default).p : Int) ≤ lineL src ((T.getD j default).p : Int)
def G (s0 : PS) (xs : List Int) (s : PS) : Prop :=
  s0.i ≤ s.i ∧ s.i < T.length ∧ ∃ nd, s.nd = s0.nd ++ nd ∧ Fo s0.nd.length nd xs ∧ ∀ m ∈ nd, lineS src T s0 ≤ m.ln
variable {src T}
theorem G.self {s : PS} (h : s.i < T.length) : G src T s [] s :=
  ⟨Nat.le_refl _, h, [], (List.append_nil _).symm, Fo.nil _, fun m hm => by cases hm⟩
theorem G.of {s0 s s' : PS} {xs : List Int} (h : G src T s0 xs s) (h1 : s'.nd = s.nd) (h2 : s.i ≤ s'.i) (h3 : s'.i < T.length) : G src T s0 xs s' := by
  obtain ⟨a, b, nd, c⟩ := h
  exact ⟨Nat.le_trans a h2, h3, nd, by rw [h1]; exact c⟩
theorem G.cat (hL : LnT src T) {s0 s s' : PS} {xs ys : List Int} (h : G src T s0 xs s) (h' : G src T s ys s') : G src T s0 (xs ++ ys) s' := by
  obtain ⟨a, b, nd, c, d, e⟩ := h
  obtain ⟨a', b', nd', c', d', e'⟩ := h'
  refine ⟨Nat.le_trans a a', b', nd ++ nd', by rw [c', c, List.append_assoc], d.cat (by rw [← List.length_append, ← c]; exact d'), ?_⟩
  intro m hm
  rcases List.mem_append.mp hm with h | h
  · exact e m h
  · have h1 := e' m h
    have h2 := hL.2 s0.i s.i a b
    have h3 : lineS src T s0 ≤ lineS src T s := by
      unfold lineS tokA
      exact Int.ofNat_le.mpr h2
    exact Int.le_trans h3 h1
theorem G.node {s0 s : PS} {xs : List Int} (h : G src T s0 xs s) (n : Nd) (hln : n.ln = lineS src T s0) (hk : manyK n.k xs.length = true) :
    Part (nodeM n xs) s (fun x s' => G src T s0 [x] s' ∧ (s'.nd.getD x.toNat ⟨0, 0, 0, [], []⟩).k = n.k ∧ 0 ≤ x) := by
  intro x s' hx
  unfold nodeM at hx
  split at hx
  · cases hx
    obtain ⟨a, b, nd, c, d, e⟩ := h
    refine ⟨⟨a, b, nd ++ [{ n with l := xs }], ?_, ?_, ?_⟩, ?_, Int.natCast_nonneg _⟩
    · show s.nd ++ _ = _
      rw [c, List.append_assoc]
    · have h2 := Fo.node (b := s0.nd.length) (nd := nd) { n with l := xs } d (fun m hm => by show n.ln ≤ _; rw [hln]; exact e m hm) hk
      have h3 : s.nd.length = s0.nd.length + nd.length := by rw [c, List.length_append]
      rw [h3]
      exact h2
    · intro m hm
      rcases List.mem_append.mp hm with h | h
      · exact e m h
      · rw [List.mem_singleton.mp h]
        exact Int.le_of_eq hln.symm
    · show ((s.nd ++ [_]).getD (Int.toNat (s.nd.length : Int)) _).k = _
      rw [Int.toNat_natCast, List.getD_eq_getElem?_getD, List.getElem?_append_right (Nat.le_refl _), Nat.sub_self]
      rfl
  · cases hx
theorem G.next {s0 s : PS} {xs : List Int} (h : G src T s0 xs s) : G src T s0 xs (nextS T s) := by
  unfold nextS
  split
  · exact h.of rfl (Nat.le_succ _) (by show s.i + 1 < _; omega)
  · exact h
theorem G.fail {s0 s : PS} {xs : List Int} (h : G src T s0 xs s) (e : Nat) : G src T s0 xs (failS T e s) := by
  unfold failS
  have := h.2.1
  split
  · exact h.of rfl (by show s.i ≤ T.length - 1; omega) (by show T.length - 1 < _; omega)
  · exact h
theorem G.want {s0 s : PS} {xs : List Int} (h : G src T s0 xs s) (x : List UInt8) : G src T s0 xs (wantS T x s) := by
  unfold wantS
  split
  · exact h.next
  · exact h.fail 20
theorem G.name {s0 s : PS} {xs : List Int} (h : G src T s0 xs s) : G src T s0 xs (nameS T s) := by
  unfold nameS
  split
  · exact h.next
  · exact h.fail 20
theorem G.deep {s0 s : PS} {xs : List Int} (h : G src T s0 xs s) (d : Int) : Part (deepS d) s (fun _ s' => G src T s0 xs s') := by
  intro x s' hx
  unfold deepS at hx
  split at hx
  · cases hx
    exact h.of rfl (Nat.le_refl _) h.2.1
  · cases hx
theorem G.open {s0 s : PS} {xs : List Int} (h : G src T s0 xs s) (x : List UInt8) : Part (openM T x) s (fun _ s' => G src T s0 xs s') := by
  unfold openM
  refine Part.mod ?_
  refine G.deep ?_ 1
  unfold openS
  refine G.want ?_ x
  split
  · exact h.fail 21
  · exact h
theorem G.shut {s0 s : PS} {xs : List Int} (h : G src T s0 xs s) (x : List UInt8) : Part (shutM T x) s (fun _ s' => G src T s0 xs s') := by
  unfold shutM
  exact Part.mod (G.deep (h.want x) (-1))
end
end Go.Proofs.YtgelggdgbmldiaaDoor

/-! Each part of it. -/
namespace Go.Proofs.YtgelggdgbmldiaaDoor
set_option linter.unusedVariables false
set_option linter.unusedSimpArgs false
section
variable {src : List UInt8} {T : List Tok}
def ExP (src : List UInt8) (T : List Tok) (ex : PM Int) : Prop := ∀ s, s.i < T.length → Part ex s (fun x s' => G src T s [x] s')
theorem ExP.on (hL : LnT src T) {ex : PM Int} (h : ExP src T ex) {s0 s : PS} {xs : List Int} (g : G src T s0 xs s) : Part ex s (fun x s' => G src T s0 (xs ++ [x]) s') :=
  (h s g.2.1).mono fun x s' g' => g.cat hL g'
theorem G.nd1 {s0 s : PS} {xs : List Int} (h : G src T s0 xs s) (n : Nd) (hln : n.ln = lineS src T s0) (hk : manyK n.k xs.length = true) : Part (nodeM n xs) s (fun x s' => G src T s0 [x] s') :=
  (h.node n hln hk).mono fun _ _ h => h.1
theorem inside_p (hL : LnT src T) {ex : PM Int} (hx : ExP src T ex) {a b : List UInt8} {s0 s : PS} {xs : List Int} (g : G src T s0 xs s) : Part (insideM T ex a b) s (fun x s' => G src T s0 (xs ++ [x]) s') := by
  unfold insideM
  refine Part.bind (g.open a) ?_
  intro _ s1 g1
  refine Part.bind (hx.on hL g1) ?_
  intro x s2 g2
  refine Part.bind (g2.shut b) ?_
  intro _ s3 g3
  exact Part.pure g3
theorem variable_p (hL : LnT src T) {ex : PM Int} (hx : ExP src T ex) {s : PS} (hs : s.i < T.length) : Part (variableM T ex (lineS src T s)) s (fun x s' => G src T s [x] s') := by
  unfold variableM
  refine Part.ask ?_
  refine Part.mod ?_
  refine Part.ask ?_
  have g := (G.self (src := src) hs).name
  split
  · refine Part.bind (inside_p hL hx g) ?_
    intro y s2 g2
    exact g2.nd1 _ rfl rfl
  · exact g.nd1 _ rfl rfl
theorem atom_p (hL : LnT src T) {ex : PM Int} (hx : ExP src T ex) : ExP src T (atomM src T ex) := by
  intro s hs
  have g := G.self (src := src) hs
  unfold atomM
  refine Part.ask ?_
  refine Part.ask ?_
  split
  · exact Part.mod (g.next.nd1 _ rfl rfl)
  split
  · exact Part.mod (g.next.nd1 _ rfl rfl)
  refine Part.ask ?_
  split
  · exact Part.mod (g.next.nd1 _ rfl rfl)
  refine Part.ask ?_
  split
  · refine Part.mod ?_
    refine Part.bind (inside_p hL hx g.next) ?_
    intro y s2 g2
    exact g2.nd1 _ rfl rfl
  refine Part.ask ?_
  split
  · exact inside_p hL hx g
  · exact variable_p hL hx hs
theorem factor_p (hL : LnT src T) {fac ex : PM Int} (hf : ExP src T fac) (hx : ExP src T ex) : ExP src T (factorM src T fac ex) := by
  intro s hs
  have g := G.self (src := src) hs
  unfold factorM
  refine Part.ask ?_
  refine Part.ask ?_
  refine Part.ask ?_
  split
  · refine Part.bind (g.open _) ?_
    intro _ s1 g1
    refine Part.bind (hf.on hL g1) ?_
    intro x s2 g2
    refine Part.bind (g2.deep _) ?_
    intro _ s3 g3
    exact g3.nd1 _ rfl rfl
  refine Part.ask ?_
  split
  · refine Part.bind (g.open _) ?_
    intro _ s1 g1
    refine Part.bind (hf.on hL g1) ?_
    intro x s2 g2
    refine Part.bind (g2.deep _) ?_
    intro _ s3 g3
    exact g3.nd1 _ rfl rfl
  · exact atom_p hL hx s hs
theorem chain_p (hL : LnT src T) {lv : Nat} {sub : PM Int} (hsub : ExP src T sub) {s0 : PS} : ∀ n (x : Int) s, G src T s0 [x] s → Part (chainR T lv sub (lineS src T s0) n x) s (fun x s' => G src T s0 [x] s') := by
  intro n
  induction n with
  | zero => intro x s _; exact Part.none
  | succ n ih =>
    intro x s g
    unfold chainR
    refine Part.ask ?_
    split
    · refine Part.ask ?_
      refine Part.mod ?_
      refine Part.bind (hsub.on hL g.next) ?_
      intro y s2 g2
      refine Part.bind (g2.nd1 _ rfl rfl) ?_
      intro z s3 g3
      split
      · exact Part.pure g3
      · exact ih z s3 g3
    · exact Part.pure g
theorem ex_p (hL : LnT src T) : ∀ n lv, ExP src T (exM src T n lv) := by
  intro n
  induction n with
  | zero => intro lv s hs; exact Part.none
  | succ n ih =>
    intro lv s hs
    unfold exM
    split
    · exact factor_p hL (ih 5) (ih 0) s hs
    · refine Part.ask ?_
      refine Part.bind (ih (lv + 1) s hs) ?_
      intro x s1 g1
      exact chain_p hL (ih (lv + 1)) n x s1 g1
theorem comma_p (hL : LnT src T) {ex : PM Int} (hx : ExP src T ex) {s0 : PS} : ∀ n (l : List Int) s, G src T s0 l s → Part (commaR T ex n l) s (fun l s' => G src T s0 l s') := by
  intro n
  induction n with
  | zero => intro x s _; exact Part.none
  | succ n ih =>
    intro l s g
    unfold commaR
    refine Part.ask ?_
    split
    · refine Part.mod ?_
      refine Part.bind (hx.on hL g.next) ?_
      intro y s2 g2
      exact ih _ s2 g2
    · exact Part.pure g
theorem args_p (hL : LnT src T) {ex : PM Int} (hx : ExP src T ex) {N : Nat} {s0 s : PS} (g : G src T s0 [] s) : Part (argsM T N ex) s (fun l s' => G src T s0 l s') := by
  unfold argsM
  refine Part.ask ?_
  split
  · exact Part.pure g
  · refine Part.bind (hx.on hL g) ?_
    intro y s2 g2
    exact comma_p hL hx N _ s2 g2
theorem many_any {k : Int} (h : k = 18 ∨ k = 21) (n : Nat) : manyK k n = true := by
  rcases h with rfl | rfl <;> simp [manyK]
theorem call_p (hL : LnT src T) {ex : PM Int} (hx : ExP src T ex) {N : Nat} : ExP src T (callM src T N ex) := by
  intro s hs
  have g := G.self (src := src) hs
  unfold callM
  refine Part.ask ?_
  refine Part.ask ?_
  refine Part.mod ?_
  refine Part.mod ?_
  refine Part.bind (args_p hL hx (g.name.want [40])) ?_
  intro l s1 g1
  refine Part.mod ?_
  exact (g1.want [41]).nd1 _ rfl (many_any (.inr rfl) _)
theorem right_p (hL : LnT src T) {ex : PM Int} (hx : ExP src T ex) {N : Nat} : ExP src T (rightM src T N ex) := by
  intro s hs
  have g := G.self (src := src) hs
  unfold rightM
  refine Part.ask ?_
  refine Part.ask ?_
  split
  · exact Part.mod (g.next.nd1 _ rfl rfl)
  refine Part.ask ?_
  split
  · refine Part.mod ?_
    refine Part.mod ?_
    refine Part.bind (hx.on hL (g.next.want [40])) ?_
    intro x s2 g2
    refine Part.mod ?_
    exact (g2.want [41]).nd1 _ rfl rfl
  refine Part.ask ?_
  split
  · exact call_p hL hx s hs
  · exact hx s hs
theorem ended_p {s0 s : PS} {xs : List Int} (g : G src T s0 xs s) (n : Nd) (hln : n.ln = lineS src T s0) (hk : manyK n.k xs.length = true) : Part (endedM T n xs) s (fun x s' => G src T s0 [x] s') := by
  unfold endedM
  exact Part.mod ((g.want [59]).nd1 _ hln hk)
theorem change_p (hL : LnT src T) {ex : PM Int} (hx : ExP src T ex) {N : Nat} {s : PS} (hs : s.i < T.length) : Part (changeM src T N ex (lineS src T s)) s (fun x s' => G src T s [x] s') := by
  have g := G.self (src := src) hs
  unfold changeM
  refine Part.ask ?_
  refine Part.mod ?_
  refine Part.ask ?_
  split
  · refine Part.bind (g.name.open _) ?_
    intro _ s1 g1
    refine Part.bind (hx.on hL g1) ?_
    intro y s2 g2
    refine Part.bind (g2.shut _) ?_
    intro _ s3 g3
    refine Part.mod ?_
    refine Part.bind (hx.on hL (g3.want [61])) ?_
    intro z s4 g4
    exact ended_p g4 _ rfl rfl
  · refine Part.mod ?_
    refine Part.bind ((right_p hL hx).on hL (g.name.want [61])) ?_
    intro z s4 g4
    exact ended_p g4 _ rfl rfl
theorem choice_p (hL : LnT src T) {ex bl : PM Int} (hx : ExP src T ex) (hb : ExP src T bl) {s : PS} (hs : s.i < T.length) : Part (choiceM T ex bl (lineS src T s)) s (fun x s' => G src T s [x] s') := by
  have g := G.self (src := src) hs
  unfold choiceM
  refine Part.mod ?_
  refine Part.bind (hx.on hL g.next) ?_
  intro x s1 g1
  refine Part.bind (hb.on hL g1) ?_
  intro y s2 g2
  refine Part.ask ?_
  split
  · refine Part.mod ?_
    refine Part.bind (hb.on hL g2.next) ?_
    intro z s3 g3
    exact g3.nd1 _ rfl rfl
  · exact g2.nd1 _ rfl rfl
theorem statement_p (hL : LnT src T) {ex bl : PM Int} (hx : ExP src T ex) (hb : ExP src T bl) {N : Nat} : ExP src T (statementM src T N ex bl) := by
  intro s hs
  have g := G.self (src := src) hs
  unfold statementM
  refine Part.ask ?_
  refine Part.ask ?_
  split
  · exact choice_p hL hx hb hs
  refine Part.ask ?_
  split
  · refine Part.mod ?_
    refine Part.bind (hx.on hL g.next) ?_
    intro x s1 g1
    refine Part.bind (hb.on hL g1) ?_
    intro y s2 g2
    exact g2.nd1 _ rfl rfl
  refine Part.ask ?_
  split
  · refine Part.bind (call_p hL hx s hs) ?_
    intro x s1 g1
    exact ended_p g1 _ rfl rfl
  refine Part.ask ?_
  split
  · refine Part.mod ?_
    refine Part.bind (hx.on hL g.next) ?_
    intro x s1 g1
    exact ended_p g1 _ rfl rfl
  refine Part.ask ?_
  split
  · refine Part.mod ?_
    refine Part.ask ?_
    split
    · exact ended_p g.next _ rfl rfl
    · refine Part.bind (hx.on hL g.next) ?_
      intro x s1 g1
      exact ended_p g1 _ rfl rfl
  refine Part.ask ?_
  split
  · refine Part.mod ?_
    refine Part.ask ?_
    refine Part.mod ?_
    refine Part.mod ?_
    refine Part.bind ((right_p hL hx).on hL (g.next.name.want [61])) ?_
    intro x s1 g1
    exact ended_p g1 _ rfl rfl
  · exact change_p hL hx hs
theorem stms_p (hL : LnT src T) {st : PM Int} (hst : ExP src T st) {s0 : PS} : ∀ n (l : List Int) s, G src T s0 l s → Part (stmsR T st n l) s (fun l s' => G src T s0 l s') := by
  intro n
  induction n with
  | zero => intro x s _; exact Part.none
  | succ n ih =>
    intro l s g
    unfold stmsR
    refine Part.ask ?_
    split
    · refine Part.bind (hst.on hL g) ?_
      intro y s2 g2
      exact ih _ s2 g2
    · exact Part.pure g
theorem block_p (hL : LnT src T) {st : PM Int} (hst : ExP src T st) {N : Nat} {s : PS} (hs : s.i < T.length) : Part (blockM src T N st) s (fun x s' => G src T s [x] s' ∧ (s'.nd.getD x.toNat ⟨0, 0, 0, [], []⟩).k = 18 ∧ 0 ≤ x) := by
  have g := G.self (src := src) hs
  unfold blockM
  refine Part.ask ?_
  refine Part.bind (g.open _) ?_
  intro _ s1 g1
  refine Part.bind (stms_p hL hst N [] s1 g1) ?_
  intro l s2 g2
  refine Part.bind (g2.shut _) ?_
  intro _ s3 g3
  exact g3.node _ rfl (many_any (.inl rfl) _)
theorem st_p (hL : LnT src T) {N : Nat} : ∀ n, ExP src T (stM src T N n) := by
  intro n
  induction n with
  | zero => intro s hs; exact Part.none
  | succ n ih =>
    unfold stM
    exact statement_p hL (ex_p hL N 0) (fun s hs => (block_p hL ih hs).mono fun _ _ h => h.1)
theorem kind_p {s0 s : PS} {xs : List Int} (g : G src T s0 xs s) : Part (kindM T) s (fun _ s' => G src T s0 xs s') := by
  unfold kindM
  refine Part.ask ?_
  split
  · refine Part.ask ?_
    refine Part.mod ?_
    exact Part.pure g.next
  · refine Part.mod ?_
    exact Part.pure (g.fail 20)
theorem param_p {s0 s : PS} {xs : List Int} (g : G src T s0 xs s) : Part (paramM T) s (fun _ s' => G src T s0 xs s') := by
  unfold paramM
  refine Part.ask ?_
  refine Part.mod ?_
  refine Part.bind (kind_p g.name) ?_
  intro t s1 g1
  exact Part.pure g1
theorem paramsR_p {s0 : PS} {xs : List Int} : ∀ n (l : List (List UInt8 × Int)) s, G src T s0 xs s → Part (paramsR T n l) s (fun _ s' => G src T s0 xs s') := by
  intro n
  induction n with
  | zero => intro x s _; exact Part.none
  | succ n ih =>
    intro l s g
    unfold paramsR
    refine Part.ask ?_
    split
    · refine Part.mod ?_
      refine Part.bind (param_p g.next) ?_
      intro y s2 g2
      exact ih _ s2 g2
    · exact Part.pure g
theorem params_p {N : Nat} {s0 s : PS} {xs : List Int} (g : G src T s0 xs s) : Part (paramsM T N) s (fun _ s' => G src T s0 xs s') := by
  unfold paramsM
  refine Part.ask ?_
  split
  · exact Part.pure g
  · refine Part.bind (param_p g) ?_
    intro y s2 g2
    exact paramsR_p N _ s2 g2
theorem ret_p {s0 s : PS} {xs : List Int} (g : G src T s0 xs s) : Part (retM T) s (fun _ s' => G src T s0 xs s') := by
  unfold retM
  refine Part.ask ?_
  split
  · exact Part.pure g
  · exact kind_p g
def Bod (s : PS) (x : Int) : Prop := (s.nd.getD x.toNat ⟨0, 0, 0, [], []⟩).k = 18 ∧ 0 ≤ x
theorem function_p (hL : LnT src T) {N : Nat} {s0 s : PS} {xs : List Int} (g : G src T s0 xs s) : Part (functionM src T N) s (fun f s' => G src T s0 (xs ++ [f.body]) s' ∧ Bod s' f.body) := by
  unfold functionM
  refine Part.ask ?_
  refine Part.mod ?_
  refine Part.ask ?_
  refine Part.mod ?_
  refine Part.mod ?_
  refine Part.bind (params_p ((g.want [102, 110]).name.want [40])) ?_
  intro ps s1 g1
  refine Part.mod ?_
  refine Part.bind (ret_p (g1.want [41])) ?_
  intro r s2 g2
  refine Part.bind (block_p hL (st_p hL N) g2.2.1) ?_
  rintro y s3 ⟨g3, g4, g5⟩
  exact Part.pure ⟨g2.cat hL g3, g4, g5⟩
theorem Bod.up {s s' : PS} {x : Int} (h : Bod s x) (hx : ∃ nd, s'.nd = s.nd ++ nd) : Bod s' x := by
  obtain ⟨nd, hn⟩ := hx
  refine ⟨?_, h.2⟩
  have h1 := h.1
  by_cases hl : x.toNat < s.nd.length
  · rw [hn, List.getD_eq_getElem?_getD, List.getElem?_append_left hl, ← List.getD_eq_getElem?_getD]
    exact h1
  · exfalso
    rw [List.getD_eq_getElem?_getD, List.getElem?_eq_none (by omega)] at h1
    exact absurd h1 (by decide)
theorem fns_p (hL : LnT src T) {N : Nat} {s0 : PS} : ∀ n (l : List Fnc) s, G src T s0 (l.map Fnc.body) s → (∀ f ∈ l, Bod s f.body) → Part (fnsR src T N n l) s (fun l s' => G src T s0 (l.map Fnc.body) s' ∧ ∀ f ∈ l, Bod s' f.body) := by
  intro n
  induction n with
  | zero => intro x s _ _; exact Part.none
  | succ n ih =>
    intro l s g hb
    unfold fnsR
    refine Part.ask ?_
    split
    · have hf := function_p hL (N := N) (G.self (src := src) g.2.1)
      refine Part.bind hf ?_
      rintro y s2 ⟨g2, h2⟩
      refine ih _ s2 (by rw [List.map_append]; exact g.cat hL g2) ?_
      intro f hf
      rcases List.mem_append.mp hf with h | h
      · obtain ⟨_, _, nd, hn, _⟩ := g2
        exact (hb f h).up ⟨nd, hn⟩
      · rw [List.mem_singleton.mp h]
        exact h2
    · exact Part.pure ⟨g, hb⟩
end
end Go.Proofs.YtgelggdgbmldiaaDoor

namespace Go.Proofs.YtgelggdgbmldiaaDoor
set_option linter.unusedVariables false
set_option linter.unusedSimpArgs false
def Runs {α : Type} (m : PM α) (s : PS) (Q : α → PS → Prop) : Prop := ∃ a s', m s = some (a, s') ∧ Q a s'
theorem Runs.bind {α β : Type} {m : PM α} {f : α → PM β} {s : PS} {R : α → PS → Prop} {Q : β → PS → Prop} (h : Runs m s R) (h2 : ∀ a s', R a s' → Runs (f a) s' Q) : Runs (m >>= f) s Q := by
  obtain ⟨a, s1, h1, hr⟩ := h
  obtain ⟨b, s2, h3, hq⟩ := h2 a s1 hr
  exact ⟨b, s2, (bind_in h1).trans h3, hq⟩
theorem Runs.pure {α : Type} {a : α} {s : PS} {Q : α → PS → Prop} (h : Q a s) : Runs (pure a) s Q := ⟨a, s, rfl, h⟩
theorem Runs.ask {α β : Type} {g : PS → α} {f : α → PM β} {s : PS} {Q : β → PS → Prop} (h : Runs (f (g s)) s Q) : Runs (ask g >>= f) s Q :=
  Runs.bind (R := fun a s' => a = g s ∧ s' = s) ⟨g s, s, rfl, rfl, rfl⟩ (by rintro a s' ⟨rfl, rfl⟩; exact h)
theorem Runs.mod {β : Type} {g : PS → PS} {f : Unit → PM β} {s : PS} {Q : β → PS → Prop} (h : Runs (f ()) (g s) Q) : Runs (mod g >>= f) s Q :=
  Runs.bind (R := fun a s' => s' = g s) ⟨(), g s, rfl, rfl⟩ (by rintro a s' rfl; exact h)
theorem Runs.mono {α : Type} {m : PM α} {s : PS} {Q R : α → PS → Prop} (h : Runs m s Q) (k : ∀ a s', Q a s' → R a s') : Runs m s R := by
  obtain ⟨a, s1, h1, hq⟩ := h
  exact ⟨a, s1, h1, k _ _ hq⟩
/-- The tokens end with one of no kind. -/
def EndT (T : List Tok) : Prop := 0 < T.length ∧ T.length ≤ 1000 ∧ (T.getD (T.length - 1) default).k = 0
section
variable (T : List Tok)
def mu (s : PS) : Nat := if s.er = 0 then T.length - s.i else 0
def Okk (s : PS) : Prop := s.i < T.length ∧ (s.er ≠ 0 → s.i = T.length - 1)
def Rm (s : PS) : Prop := Okk T s ∧ 0 ≤ s.dp ∧ s.dp + mu T s ≤ 900000 ∧ s.nd.length + 10 * mu T s ≤ 90000
def St (s s' : PS) (d c : Nat) (e : Int) : Prop := Okk T s' ∧ mu T s' ≤ mu T s - d ∧ s'.nd.length + 10 * mu T s' ≤ s.nd.length + 10 * (mu T s - d) + c ∧ s'.dp = s.dp + e
variable {T}
theorem mu_pos {s : PS} (h : Okk T s) (he : s.er = 0) : 1 ≤ mu T s := by
  unfold mu
  rw [if_pos he]
  have := h.1
  omega
theorem some_tok (hT : EndT T) {s : PS} (h : Okk T s) (hk : (tokA T s).k ≠ 0) : s.er = 0 ∧ s.i < T.length - 1 := by
  have h0 : s.i ≠ T.length - 1 := fun hi => hk (by unfold tokA; rw [hi]; exact hT.2.2)
  have h1 := h.1
  refine ⟨?_, by omega⟩
  by_cases he : s.er = 0
  · exact he
  · exact absurd (h.2 he) h0
theorem isS_k {ts : List (List UInt8)} {s : PS} (h : isS T ts s = true) : (tokA T s).k ≠ 0 := by
  intro h0
  simp [isS, h0] at h
theorem callsS_k {s : PS} (h : callsS T s = true) : (tokA T s).k ≠ 0 := by
  intro h0
  simp [callsS, h0] at h
theorem next_St (hT : EndT T) {s : PS} (h : Okk T s) (hk : (tokA T s).k ≠ 0) : 2 ≤ mu T s ∧ mu T (nextS T s) + 1 = mu T s ∧ St T s (nextS T s) 1 0 0 := by
  obtain ⟨he, hi⟩ := some_tok hT h hk
  have hm : mu T s = T.length - s.i := if_pos he
  have hn : nextS T s = { s with i := s.i + 1 } := if_pos hi
  rw [hn]
  have hm' : mu T { s with i := s.i + 1 } = T.length - (s.i + 1) := if_pos he
  refine ⟨by omega, by omega, ⟨?_, fun hh => absurd he hh⟩, ?_, ?_, ?_⟩
  · show s.i + 1 < T.length
    omega
  · omega
  · show s.nd.length + _ ≤ _
    omega
  · show s.dp = _
    omega
theorem fail_St {s : PS} (hT : EndT T) (h : Okk T s) {e : Nat} (hx : e ≠ 0) : St T s (failS T e s) 1 0 0 := by
  by_cases he : s.er = 0
  · have hm := mu_pos h he
    have hn : failS T e s = { s with pl := (tokA T s).p, er := e, i := T.length - 1 } := if_pos he
    rw [hn]
    have hm' : mu T { s with pl := (tokA T s).p, er := e, i := T.length - 1 } = 0 := if_neg hx
    have h0 := hT.1
    refine ⟨⟨?_, fun _ => rfl⟩, by omega, ?_, ?_⟩
    · show T.length - 1 < T.length
      omega
    · show s.nd.length + _ ≤ _
      omega
    · show s.dp = _
      omega
  · have hn : failS T e s = s := if_neg he
    rw [hn]
    have hm : mu T s = 0 := if_neg he
    exact ⟨h, by omega, by omega, by omega⟩
theorem St.trans {s s1 s2 : PS} {d d' c c' : Nat} {e e' : Int} (h : St T s s1 d c e) (h2 : St T s1 s2 d' c' e') : St T s s2 d (c + c') (e + e') := by
  obtain ⟨a1, a2, a3, a4⟩ := h
  obtain ⟨b1, b2, b3, b4⟩ := h2
  exact ⟨b1, by omega, by omega, by omega⟩
theorem want_St (hT : EndT T) {s : PS} (h : Okk T s) (x : List UInt8) : St T s (wantS T x s) 1 0 0 := by
  unfold wantS
  by_cases hb : isS T [x] s = true
  · rw [if_pos hb]
    exact (next_St hT h (isS_k hb)).2.2
  · rw [if_neg hb]
    exact fail_St hT h (by decide)
theorem name_St (hT : EndT T) {s : PS} (h : Okk T s) : St T s (nameS T s) 1 0 0 := by
  unfold nameS
  by_cases hb : (tokA T s).k = 3
  · rw [if_pos hb]
    exact (next_St hT h (by omega)).2.2
  · rw [if_neg hb]
    exact fail_St hT h (by decide)
theorem open_St (hT : EndT T) {s : PS} (h : Okk T s) (x : List UInt8) : St T s (openS T x s) 1 0 0 := by
  unfold openS
  by_cases hb : (isS T [x] s && decide (16 ≤ s.dp)) = true
  · rw [if_pos hb]
    have h1 := fail_St hT h (e := 21) (by decide)
    exact h1.trans (want_St hT h1.1 x)
  · rw [if_neg hb]
    exact want_St hT h x
theorem next_nd (s : PS) : (nextS T s).nd = s.nd := by
  unfold nextS
  split <;> rfl
theorem fail_nd (e : Nat) (s : PS) : (failS T e s).nd = s.nd := by
  unfold failS
  split <;> rfl
theorem want_nd (x : List UInt8) (s : PS) : (wantS T x s).nd = s.nd := by
  unfold wantS
  split
  · exact next_nd s
  · exact fail_nd 20 s
theorem open_nd (x : List UInt8) (s : PS) : (openS T x s).nd = s.nd := by
  unfold openS
  rw [want_nd]
  split
  · exact fail_nd 21 s
  · rfl
theorem deep_runs {s : PS} (d : Int) (h : -900000 ≤ s.dp ∧ s.dp ≤ 900001) : Runs (deepS d) s (fun _ s' => s' = { s with dp := s.dp + d }) :=
  ⟨(), _, if_pos (by omega), rfl⟩
theorem deep_St {s : PS} (d : Int) (h : Okk T s) : St T s { s with dp := s.dp + d } 0 0 d := ⟨h, Nat.le_refl _, Nat.le_refl _, rfl⟩
theorem node_runs {s : PS} (h : Rm T s ∨ (Okk T s ∧ s.nd.length ≤ 99000)) (n : Nd) (l : List Int) : Runs (nodeM n l) s (fun _ s' => St T s s' 0 1 0) := by
  have h0 : Okk T s ∧ s.nd.length ≤ 99000 := by
    rcases h with h | h
    · obtain ⟨h1, h2, h3, h4⟩ := h
      exact ⟨h1, by omega⟩
    · exact h
  refine ⟨_, _, if_pos (by omega), h0.1, Nat.le_refl _, ?_, ?_⟩
  · show (s.nd ++ [_]).length + _ ≤ _
    rw [List.length_append]
    show s.nd.length + 1 + 10 * mu T s ≤ _
    omega
  · show s.dp = _
    omega
theorem open_runs (hT : EndT T) {s : PS} (h : Okk T s) (hd : -900000 ≤ s.dp ∧ s.dp ≤ 900001) (x : List UInt8) : Runs (openM T x) s (fun _ s' => St T s s' 1 0 1 ∧ s'.nd.length = s.nd.length) := by
  unfold openM
  refine Runs.mod ?_
  have h1 := open_St hT h x
  have h4 := h1.2.2.2
  refine (deep_runs 1 (by omega)).mono ?_
  rintro a s' rfl
  refine ⟨h1.trans (deep_St 1 h1.1), ?_⟩
  show (openS T x s).nd.length = _
  rw [open_nd]
theorem shut_runs (hT : EndT T) {s : PS} (h : Okk T s) (hd : -900000 ≤ s.dp ∧ s.dp ≤ 900001) (x : List UInt8) : Runs (shutM T x) s (fun _ s' => St T s s' 1 0 (-1)) := by
  unfold shutM
  refine Runs.mod ?_
  have h1 := want_St hT h x
  have h4 := h1.2.2.2
  refine (deep_runs (-1) (by omega)).mono ?_
  rintro a s' rfl
  exact h1.trans (deep_St (-1) h1.1)
end
end Go.Proofs.YtgelggdgbmldiaaDoor

/-! Expressions. -/
namespace Go.Proofs.YtgelggdgbmldiaaDoor
set_option linter.unusedVariables false
set_option linter.unusedSimpArgs false
section
variable {src : List UInt8} {T : List Tok}
theorem inside_runs (hT : EndT T) {ex : PM Int} {a b : List UInt8} {s : PS} (hs : Rm T s) (hm : 1 ≤ mu T s)
    (hx : ∀ s1, Rm T s1 → mu T s1 + 1 ≤ mu T s → Runs ex s1 (fun _ s' => St T s1 s' 1 1 0)) : Runs (insideM T ex a b) s (fun _ s' => St T s s' 1 1 0) := by
  obtain ⟨o, r1, r2, r3⟩ := hs
  unfold insideM
  refine Runs.bind (open_runs hT o (by omega) a) ?_
  rintro _ s1 ⟨⟨o1, m1, n1, d1⟩, e1⟩
  refine Runs.bind (hx s1 ⟨o1, by omega, by omega, by omega⟩ (by omega)) ?_
  rintro x s2 ⟨o2, m2, n2, d2⟩
  refine Runs.bind (shut_runs hT o2 (by omega) b) ?_
  rintro _ s3 ⟨o3, m3, n3, d3⟩
  exact Runs.pure ⟨o3, by omega, by omega, by omega⟩
theorem variable_runs (hT : EndT T) {ex : PM Int} {s : PS} (ln : Int) (hs : Rm T s)
    (hx : ∀ s1, Rm T s1 → mu T s1 + 1 ≤ mu T s → Runs ex s1 (fun _ s' => St T s1 s' 1 1 0)) : Runs (variableM T ex ln) s (fun _ s' => St T s s' 1 1 0) := by
  obtain ⟨o, r1, r2, r3⟩ := hs
  unfold variableM
  refine Runs.ask ?_
  refine Runs.mod ?_
  obtain ⟨o1, m1, n1, d1⟩ := name_St hT o
  generalize nameS T s = s1 at *
  refine Runs.ask ?_
  try dsimp only
  by_cases hb : isS T [[91]] s1 = true
  · rw [if_pos hb]
    have hn := (next_St hT o1 (isS_k hb)).1
    refine Runs.bind (inside_runs hT ⟨o1, by omega, by omega, by omega⟩ (by omega) (fun s2 h2 h3 => hx s2 h2 (by omega))) ?_
    rintro y s2 ⟨o2, m2, n2, d2⟩
    refine (node_runs (.inr ⟨o2, by omega⟩) _ _).mono ?_
    rintro _ s3 ⟨o3, m3, n3, d3⟩
    exact ⟨o3, by omega, by omega, by omega⟩
  · rw [if_neg hb]
    refine (node_runs (.inr ⟨o1, by omega⟩) _ _).mono ?_
    rintro _ s3 ⟨o3, m3, n3, d3⟩
    exact ⟨o3, by omega, by omega, by omega⟩
/-- One token on, then a node. -/
theorem next_node (hT : EndT T) {s : PS} (hs : Rm T s) (hk : (tokA T s).k ≠ 0) (n : Nd) (l : List Int) : Runs (do mod (nextS T); nodeM n l) s (fun _ s' => St T s s' 1 1 0) := by
  obtain ⟨o, r1, r2, r3⟩ := hs
  obtain ⟨hn, hn1, o1, m1, n1, d1⟩ := next_St hT o hk
  refine Runs.mod ?_
  refine (node_runs (.inr ⟨o1, by omega⟩) _ _).mono ?_
  rintro _ s3 ⟨o3, m3, n3, d3⟩
  exact ⟨o3, by omega, by omega, by omega⟩
theorem atom_runs (hT : EndT T) {ex : PM Int} {s : PS} (hs : Rm T s)
    (hx : ∀ s1, Rm T s1 → mu T s1 + 1 ≤ mu T s → Runs ex s1 (fun _ s' => St T s1 s' 1 1 0)) : Runs (atomM src T ex) s (fun _ s' => St T s s' 1 1 0) := by
  unfold atomM
  refine Runs.ask ?_
  refine Runs.ask ?_
  try dsimp only
  by_cases h1 : (tokA T s).k = 1
  · rw [if_pos h1]
    exact next_node hT hs (by omega) _ _
  rw [if_neg h1]
  by_cases h2 : (tokA T s).k = 2
  · rw [if_pos h2]
    exact next_node hT hs (by omega) _ _
  rw [if_neg h2]
  refine Runs.ask ?_
  try dsimp only
  by_cases hb : isS T [[116, 114, 117, 101], [102, 97, 108, 115, 101]] s = true
  · rw [if_pos hb]
    exact next_node hT hs (isS_k hb) _ _
  rw [if_neg hb]
  clear hb
  refine Runs.ask ?_
  try dsimp only
  by_cases hb : isS T [[108, 101, 110]] s = true
  · rw [if_pos hb]
    obtain ⟨o, r1, r2, r3⟩ := hs
    obtain ⟨hn, hn1, o1, m1, n1, d1⟩ := next_St hT o (isS_k hb)
    refine Runs.mod ?_
    try dsimp only
    generalize nextS T s = s1 at *
    refine Runs.bind (inside_runs hT ⟨o1, by omega, by omega, by omega⟩ (by omega) (fun s2 h2 h3 => hx s2 h2 (by omega))) ?_
    rintro y s2 ⟨o2, m2, n2, d2⟩
    refine (node_runs (.inr ⟨o2, by omega⟩) _ _).mono ?_
    rintro _ s3 ⟨o3, m3, n3, d3⟩
    exact ⟨o3, by omega, by omega, by omega⟩
  rw [if_neg hb]
  clear hb
  refine Runs.ask ?_
  try dsimp only
  by_cases hb : isS T [[40]] s = true
  · rw [if_pos hb]
    have hn := (next_St hT hs.1 (isS_k hb)).1
    exact inside_runs hT hs (by omega) hx
  rw [if_neg hb]
  exact variable_runs hT _ hs hx
theorem sign_runs (hT : EndT T) {fac : PM Int} {s : PS} (hs : Rm T s) (hm : 2 ≤ mu T s) (x : List UInt8) (n : Nd)
    (hf : ∀ s1, Rm T s1 → mu T s1 + 1 ≤ mu T s → Runs fac s1 (fun _ s' => St T s1 s' 1 1 0)) :
    Runs (do openM T x; let y ← fac; deepS (-1); nodeM n [y]) s (fun _ s' => St T s s' 1 1 0) := by
  obtain ⟨o, r1, r2, r3⟩ := hs
  refine Runs.bind (open_runs hT o (by omega) x) ?_
  rintro _ s1 ⟨⟨o1, m1, n1, d1⟩, e1⟩
  refine Runs.bind (hf s1 ⟨o1, by omega, by omega, by omega⟩ (by omega)) ?_
  rintro y s2 ⟨o2, m2, n2, d2⟩
  refine Runs.bind (deep_runs (-1) (by omega)) ?_
  rintro _ s3 rfl
  obtain ⟨o3, m3, n3, d3⟩ := deep_St (-1) o2
  generalize ({ s2 with dp := s2.dp + -1 } : PS) = s3 at *
  refine (node_runs (.inr ⟨o3, by omega⟩) _ _).mono ?_
  rintro _ s4 ⟨o4, m4, n4, d4⟩
  exact ⟨o4, by omega, by omega, by omega⟩
theorem factor_runs (hT : EndT T) {fac ex : PM Int} {s : PS} (hs : Rm T s)
    (hf : ∀ s1, Rm T s1 → mu T s1 + 1 ≤ mu T s → Runs fac s1 (fun _ s' => St T s1 s' 1 1 0))
    (hx : ∀ s1, Rm T s1 → mu T s1 + 1 ≤ mu T s → Runs ex s1 (fun _ s' => St T s1 s' 1 1 0)) : Runs (factorM src T fac ex) s (fun _ s' => St T s s' 1 1 0) := by
  unfold factorM
  refine Runs.ask ?_
  refine Runs.ask ?_
  refine Runs.ask ?_
  try dsimp only
  by_cases hb : isS T [[33]] s = true
  · rw [if_pos hb]
    exact sign_runs hT hs (next_St hT hs.1 (isS_k hb)).1 _ _ hf
  rw [if_neg hb]
  clear hb
  refine Runs.ask ?_
  try dsimp only
  by_cases hb : isS T [[45]] s = true
  · rw [if_pos hb]
    exact sign_runs hT hs (next_St hT hs.1 (isS_k hb)).1 _ _ hf
  rw [if_neg hb]
  exact atom_runs hT hs hx
theorem chain_runs (hT : EndT T) {lv : Nat} {sub : PM Int} (ln : Int) (M : Nat)
    (hsub : ∀ s1, Rm T s1 → mu T s1 + 1 ≤ M → Runs sub s1 (fun _ s' => St T s1 s' 1 1 0)) :
    ∀ n (x : Int) s, Okk T s → 0 ≤ s.dp → s.dp + mu T s ≤ 900000 → s.nd.length + 10 * mu T s ≤ 90001 → mu T s ≤ M → mu T s + 1 ≤ n → Runs (chainR T lv sub ln n x) s (fun _ s' => St T s s' 0 0 0) := by
  intro n
  induction n with
  | zero => intro x s _ _ _ _ _ h; exact absurd h (by omega)
  | succ n ih =>
    intro x s o r1 r2 r3 hM hn
    unfold chainR
    refine Runs.ask ?_
    try dsimp only
    by_cases hb : isS T (signsL lv) s = true
    · rw [if_pos hb]
      refine Runs.ask ?_
      refine Runs.mod ?_
      obtain ⟨hn, hn1, o1, m1, n1, d1⟩ := next_St hT o (isS_k hb)
      try dsimp only
      generalize nextS T s = s1 at *
      refine Runs.bind (hsub s1 ⟨o1, by omega, by omega, by omega⟩ (by omega)) ?_
      rintro y s2 ⟨o2, m2, n2, d2⟩
      refine Runs.bind (node_runs (.inr ⟨o2, by omega⟩) _ _) ?_
      rintro z s3 ⟨o3, m3, n3, d3⟩
      by_cases hl : lv = 2
      · rw [if_pos hl]
        exact Runs.pure ⟨o3, by omega, by omega, by omega⟩
      · rw [if_neg hl]
        refine (ih z s3 o3 (by omega) (by omega) (by omega) (by omega) (by omega)).mono ?_
        rintro _ s4 ⟨o4, m4, n4, d4⟩
        exact ⟨o4, by omega, by omega, by omega⟩
    · rw [if_neg hb]
      exact Runs.pure ⟨o, by omega, by omega, by omega⟩
theorem ex_runs (hT : EndT T) : ∀ n lv s, lv ≤ 5 → Rm T s → 6 * mu T s + 6 - lv ≤ n → Runs (exM src T n lv) s (fun _ s' => St T s s' 1 1 0) := by
  intro n
  induction n with
  | zero => intro lv s h1 _ h; exact absurd h (by omega)
  | succ n ih =>
    intro lv s hl hs hn
    unfold exM
    by_cases h5 : lv = 5
    · rw [if_pos h5]
      exact factor_runs hT hs (fun s1 h1 h2 => ih 5 s1 (by omega) h1 (by omega)) (fun s1 h1 h2 => ih 0 s1 (by omega) h1 (by omega))
    · rw [if_neg h5]
      refine Runs.ask ?_
      refine Runs.bind (ih (lv + 1) s (by omega) hs (by omega)) ?_
      obtain ⟨o, r1, r2, r3⟩ := hs
      rintro x s1 ⟨o1, m1, n1, d1⟩
      refine (chain_runs hT _ (mu T s) (fun s2 h2 h3 => ih (lv + 1) s2 (by omega) h2 (by omega)) n x s1 o1 (by omega) (by omega) (by omega) (by omega) (by omega)).mono ?_
      rintro _ s2 ⟨o2, m2, n2, d2⟩
      exact ⟨o2, by omega, by omega, by omega⟩
end
end Go.Proofs.YtgelggdgbmldiaaDoor
