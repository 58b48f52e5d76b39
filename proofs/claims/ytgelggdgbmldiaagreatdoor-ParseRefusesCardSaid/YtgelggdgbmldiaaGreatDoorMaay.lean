/-
  Layer 2: the nodes that the program's parser makes stand as they should. Written by an AI agent.
  Layer 2: what ParseBelow asks of the nodes, as data. Written by an AI agent.
  Layer 2: what ParseBelow counts, as data; a source cut short. Written by an AI agent.
  Layer 2: what a parser tells, in one form; how much it is at most. Written by an AI agent.
  Layer 2: ParseAll. Written by an AI agent.
  Layer 2: the start of a row. Written by an AI agent.
-/
import Derived.Test.YtgelggdgbmldiaaGreatDoorMaaa
import Derived.Test.YtgelggdgbmldiaaGreatDoorMaab
import Derived.Test.YtgelggdgbmldiaaGreatDoorMaaw
import Derived.Test.YtgelggdgbmldiaaGreatDoorMaax
import Derived.Deep.OwnRows
import Derived.Laws.OwnMore
import Derived.Test.YtgelggdgbmldiaaGreatDoorMaas
import Derived.Test.YtgelggdgbmldiaaGreatDoorRows
import Derived.Test.YtgelggdgbmldiaaGreatDoorMaac
import Derived.Stop.LaidErr
import Derived.LaidMore
import Derived.Stop.Joined
import Derived.ProofKit
import Derived.ChangeOld
namespace Go.Proofs.YtgelggdgbmldiaaGreatDoor
set_option linter.unusedVariables false
set_option linter.unusedSimpArgs false

def Part {α : Type} (m : PM α) (s : PS) (Q : α → PS → Prop) : Prop := ∀ a s', m s = some (a, s') → Q a s'
theorem Part.bind {α β : Type} {m : PM α} {f : α → PM β} {s : PS} {R : α → PS → Prop} {Q : β → PS → Prop} (h : Part m s R) (h2 : ∀ a s', R a s' → Part (f a) s' Q) : Part (m >>= f) s Q := by
  intro b s2 hb
  obtain ⟨a, s1, h1, h3⟩ := bind_out hb
  exact h2 a s1 (h a s1 h1) b s2 h3
theorem Part.pure {α : Type} {a : α} {s : PS} {Q : α → PS → Prop} (h : Q a s) : Part (pure a) s Q := by
  intro b s2 hb
  have := pure_out hb
  cases this
  exact h
theorem Part.none {α : Type} {s : PS} {Q : α → PS → Prop} : Part (fun _ => none) s Q := by
  intro b s2 hb
  cases hb
theorem Part.ask {α β : Type} {g : PS → α} {f : α → PM β} {s : PS} {Q : β → PS → Prop} (h : Part (f (g s)) s Q) : Part (ask g >>= f) s Q :=
  Part.bind (R := fun a s' => a = g s ∧ s' = s) (by intro a s' h; cases h; exact ⟨rfl, rfl⟩) (by rintro a s' ⟨rfl, rfl⟩; exact h)
theorem Part.mod {β : Type} {g : PS → PS} {f : Unit → PM β} {s : PS} {Q : β → PS → Prop} (h : Part (f ()) (g s) Q) : Part (mod g >>= f) s Q :=
  Part.bind (R := fun a s' => s' = g s) (by intro a s' h; cases h; rfl) (by rintro a s' rfl; exact h)
theorem Part.mono {α : Type} {m : PM α} {s : PS} {Q R : α → PS → Prop} (h : Part m s Q) (k : ∀ a s', Q a s' → R a s') : Part m s R :=
  fun a s' he => k a s' (h a s' he)

/-- How many are below a node of a kind. -/
def manyK (k : Int) (n : Nat) : Bool :=
  (decide (k = 1 ∨ k = 2 ∨ k = 3 ∨ k = 4 ∨ k = 19) && decide (n = 0)) || (decide (k = 5 ∨ k = 6 ∨ k = 7 ∨ k = 8 ∨ k = 10 ∨ k = 11 ∨ k = 13 ∨ k = 14 ∨ k = 20) && decide (n = 1)) ||
  (decide (k = 9 ∨ k = 12 ∨ k = 16) && decide (n = 2)) || (decide (k = 15) && decide (n = 2 ∨ n = 3)) || (decide (k = 17) && decide (n ≤ 1)) || decide (k = 18 ∨ k = 21)

/-- Nodes from a place on, and which of them have none above. -/
inductive Fo : Nat → List Nd → List Int → Prop
  | nil (b : Nat) : Fo b [] []
  | cat {b : Nat} {nd nd' : List Nd} {xs ys : List Int} : Fo b nd xs → Fo (b + nd.length) nd' ys → Fo b (nd ++ nd') (xs ++ ys)
  | node {b : Nat} {nd : List Nd} (n : Nd) : Fo b nd n.l → (∀ m ∈ nd, n.ln ≤ m.ln) → manyK n.k n.l.length = true → Fo b (nd ++ [n]) [((b + nd.length : Nat) : Int)]

section
variable (src : List UInt8) (T : List Tok)
/-- Lines rise. -/
def LnT : Prop := 0 < T.length ∧ ∀ i j, i ≤ j → j < T.length → lineL src ((T.getD i default).p : Int) ≤ lineL src ((T.getD j default).p : Int)

def G (s0 : PS) (xs : List Int) (s : PS) : Prop :=
  s0.i ≤ s.i ∧ s.i < T.length ∧ ∃ nd, s.nd = s0.nd ++ nd ∧ Fo s0.nd.length nd xs ∧ ∀ m ∈ nd, lineS src T s0 ≤ m.ln

variable {src T}
theorem G.self {s : PS} (h : s.i < T.length) : G src T s [] s :=
  ⟨Nat.le_refl _, h, [], (List.append_nil _).symm, Fo.nil _, fun m hm => by cases hm⟩
theorem G.of {s0 s s' : PS} {xs : List Int} (h : G src T s0 xs s) (h1 : s'.nd = s.nd) (h2 : s.i ≤ s'.i) (h3 : s'.i < T.length) : G src T s0 xs s' := by
  obtain ⟨a, b, nd, c⟩ := h
  exact ⟨Nat.le_trans a h2, h3, nd, by rw [h1]; exact c⟩
theorem G.cat (hL : LnT src T) {s0 s s' : PS} {xs ys : List Int} (h : G src T s0 xs s) (h' : G src T s ys s') : G src T s0 (xs ++ ys) s' := by
  obtain ⟨a, b, nd, c, d, e⟩ := h
  obtain ⟨a', b', nd', c', d', e'⟩ := h'
  refine ⟨Nat.le_trans a a', b', nd ++ nd', by rw [c', c, List.append_assoc], d.cat (by rw [← List.length_append, ← c]; exact d'), ?_⟩
  intro m hm
  rcases List.mem_append.mp hm with h | h
  · exact e m h
  · have h1 := e' m h
    have h2 := hL.2 s0.i s.i a b
    have h3 : lineS src T s0 ≤ lineS src T s := by
      unfold lineS tokA
      exact Int.ofNat_le.mpr h2
    exact Int.le_trans h3 h1
theorem G.node {s0 s : PS} {xs : List Int} (h : G src T s0 xs s) (n : Nd) (hln : n.ln = lineS src T s0) (hk : manyK n.k xs.length = true) :
    Part (nodeM n xs) s (fun x s' => G src T s0 [x] s' ∧ (s'.nd.getD x.toNat ⟨0, 0, 0, [], []⟩).k = n.k ∧ 0 ≤ x) := by
  intro x s' hx
  unfold nodeM at hx
  split at hx
  · cases hx
    obtain ⟨a, b, nd, c, d, e⟩ := h
    refine ⟨⟨a, b, nd ++ [{ n with l := xs }], ?_, ?_, ?_⟩, ?_, Int.natCast_nonneg _⟩
    · show s.nd ++ _ = _
      rw [c, List.append_assoc]
    · have h2 := Fo.node (b := s0.nd.length) (nd := nd) { n with l := xs } d (fun m hm => by show n.ln ≤ _; rw [hln]; exact e m hm) hk
      have h3 : s.nd.length = s0.nd.length + nd.length := by rw [c, List.length_append]
      rw [h3]
      exact h2
    · intro m hm
      rcases List.mem_append.mp hm with h | h
      · exact e m h
      · rw [List.mem_singleton.mp h]
        exact Int.le_of_eq hln.symm
    · show ((s.nd ++ [_]).getD (Int.toNat (s.nd.length : Int)) _).k = _
      rw [Int.toNat_natCast, List.getD_eq_getElem?_getD, List.getElem?_append_right (Nat.le_refl _), Nat.sub_self]
      rfl
  · cases hx

theorem G.next {s0 s : PS} {xs : List Int} (h : G src T s0 xs s) : G src T s0 xs (nextS T s) := by
  unfold nextS
  split
  · exact h.of rfl (Nat.le_succ _) (by show s.i + 1 < _; omega)
  · exact h
theorem G.fail {s0 s : PS} {xs : List Int} (h : G src T s0 xs s) (e : Nat) : G src T s0 xs (failS T e s) := by
  unfold failS
  have := h.2.1
  split
  · exact h.of rfl (by show s.i ≤ T.length - 1; omega) (by show T.length - 1 < _; omega)
  · exact h
theorem G.want {s0 s : PS} {xs : List Int} (h : G src T s0 xs s) (x : List UInt8) : G src T s0 xs (wantS T x s) := by
  unfold wantS
  split
  · exact h.next
  · exact h.fail 20
theorem G.name {s0 s : PS} {xs : List Int} (h : G src T s0 xs s) : G src T s0 xs (nameS T s) := by
  unfold nameS
  split
  · exact h.next
  · exact h.fail 20
theorem G.deep {s0 s : PS} {xs : List Int} (h : G src T s0 xs s) (d : Int) : Part (deepS d) s (fun _ s' => G src T s0 xs s') := by
  intro x s' hx
  unfold deepS at hx
  split at hx
  · cases hx
    exact h.of rfl (Nat.le_refl _) h.2.1
  · cases hx
theorem G.open {s0 s : PS} {xs : List Int} (h : G src T s0 xs s) (x : List UInt8) : Part (openM T x) s (fun _ s' => G src T s0 xs s') := by
  unfold openM
  refine Part.mod ?_
  refine G.deep ?_ 1
  unfold openS
  refine G.want ?_ x
  split
  · exact h.fail 21
  · exact h
theorem G.shut {s0 s : PS} {xs : List Int} (h : G src T s0 xs s) (x : List UInt8) : Part (shutM T x) s (fun _ s' => G src T s0 xs s') := by
  unfold shutM
  exact Part.mod (G.deep (h.want x) (-1))
end
end Go.Proofs.YtgelggdgbmldiaaGreatDoor

/-! Each part of it. -/
namespace Go.Proofs.YtgelggdgbmldiaaGreatDoor
set_option linter.unusedVariables false
set_option linter.unusedSimpArgs false

section
variable {src : List UInt8} {T : List Tok}
def ExP (src : List UInt8) (T : List Tok) (ex : PM Int) : Prop := ∀ s, s.i < T.length → Part ex s (fun x s' => G src T s [x] s')
theorem ExP.on (hL : LnT src T) {ex : PM Int} (h : ExP src T ex) {s0 s : PS} {xs : List Int} (g : G src T s0 xs s) : Part ex s (fun x s' => G src T s0 (xs ++ [x]) s') :=
  (h s g.2.1).mono fun x s' g' => g.cat hL g'
theorem G.nd1 {s0 s : PS} {xs : List Int} (h : G src T s0 xs s) (n : Nd) (hln : n.ln = lineS src T s0) (hk : manyK n.k xs.length = true) : Part (nodeM n xs) s (fun x s' => G src T s0 [x] s') :=
  (h.node n hln hk).mono fun _ _ h => h.1

theorem inside_p (hL : LnT src T) {ex : PM Int} (hx : ExP src T ex) {a b : List UInt8} {s0 s : PS} {xs : List Int} (g : G src T s0 xs s) : Part (insideM T ex a b) s (fun x s' => G src T s0 (xs ++ [x]) s') := by
  unfold insideM
  refine Part.bind (g.open a) ?_
  intro _ s1 g1
  refine Part.bind (hx.on hL g1) ?_
  intro x s2 g2
  refine Part.bind (g2.shut b) ?_
  intro _ s3 g3
  exact Part.pure g3
theorem variable_p (hL : LnT src T) {ex : PM Int} (hx : ExP src T ex) {s : PS} (hs : s.i < T.length) : Part (variableM T ex (lineS src T s)) s (fun x s' => G src T s [x] s') := by
  unfold variableM
  refine Part.ask ?_
  refine Part.mod ?_
  refine Part.ask ?_
  have g := (G.self (src := src) hs).name
  split
  · refine Part.bind (inside_p hL hx g) ?_
    intro y s2 g2
    exact g2.nd1 _ rfl rfl
  · exact g.nd1 _ rfl rfl
theorem atom_p (hL : LnT src T) {ex : PM Int} (hx : ExP src T ex) : ExP src T (atomM src T ex) := by
  intro s hs
  have g := G.self (src := src) hs
  unfold atomM
  refine Part.ask ?_
  refine Part.ask ?_
  split
  · exact Part.mod (g.next.nd1 _ rfl rfl)
  split
  · exact Part.mod (g.next.nd1 _ rfl rfl)
  refine Part.ask ?_
  split
  · exact Part.mod (g.next.nd1 _ rfl rfl)
  refine Part.ask ?_
  split
  · refine Part.mod ?_
    refine Part.bind (inside_p hL hx g.next) ?_
    intro y s2 g2
    exact g2.nd1 _ rfl rfl
  refine Part.ask ?_
  split
  · exact inside_p hL hx g
  · exact variable_p hL hx hs
theorem factor_p (hL : LnT src T) {fac ex : PM Int} (hf : ExP src T fac) (hx : ExP src T ex) : ExP src T (factorM src T fac ex) := by
  intro s hs
  have g := G.self (src := src) hs
  unfold factorM
  refine Part.ask ?_
  refine Part.ask ?_
  refine Part.ask ?_
  split
  · refine Part.bind (g.open _) ?_
    intro _ s1 g1
    refine Part.bind (hf.on hL g1) ?_
    intro x s2 g2
    refine Part.bind (g2.deep _) ?_
    intro _ s3 g3
    exact g3.nd1 _ rfl rfl
  refine Part.ask ?_
  split
  · refine Part.bind (g.open _) ?_
    intro _ s1 g1
    refine Part.bind (hf.on hL g1) ?_
    intro x s2 g2
    refine Part.bind (g2.deep _) ?_
    intro _ s3 g3
    exact g3.nd1 _ rfl rfl
  · exact atom_p hL hx s hs
theorem chain_p (hL : LnT src T) {lv : Nat} {sub : PM Int} (hsub : ExP src T sub) {s0 : PS} : ∀ n (x : Int) s, G src T s0 [x] s → Part (chainR T lv sub (lineS src T s0) n x) s (fun x s' => G src T s0 [x] s') := by
  intro n
  induction n with
  | zero => intro x s _; exact Part.none
  | succ n ih =>
    intro x s g
    unfold chainR
    refine Part.ask ?_
    split
    · refine Part.ask ?_
      refine Part.mod ?_
      refine Part.bind (hsub.on hL g.next) ?_
      intro y s2 g2
      refine Part.bind (g2.nd1 _ rfl rfl) ?_
      intro z s3 g3
      split
      · exact Part.pure g3
      · exact ih z s3 g3
    · exact Part.pure g
theorem ex_p (hL : LnT src T) : ∀ n lv, ExP src T (exM src T n lv) := by
  intro n
  induction n with
  | zero => intro lv s hs; exact Part.none
  | succ n ih =>
    intro lv s hs
    unfold exM
    split
    · exact factor_p hL (ih 5) (ih 0) s hs
    · refine Part.ask ?_
      refine Part.bind (ih (lv + 1) s hs) ?_
      intro x s1 g1
      exact chain_p hL (ih (lv + 1)) n x s1 g1

theorem comma_p (hL : LnT src T) {ex : PM Int} (hx : ExP src T ex) {s0 : PS} : ∀ n (l : List Int) s, G src T s0 l s → Part (commaR T ex n l) s (fun l s' => G src T s0 l s') := by
  intro n
  induction n with
  | zero => intro x s _; exact Part.none
  | succ n ih =>
    intro l s g
    unfold commaR
    refine Part.ask ?_
    split
    · refine Part.mod ?_
      refine Part.bind (hx.on hL g.next) ?_
      intro y s2 g2
      exact ih _ s2 g2
    · exact Part.pure g
theorem args_p (hL : LnT src T) {ex : PM Int} (hx : ExP src T ex) {N : Nat} {s0 s : PS} (g : G src T s0 [] s) : Part (argsM T N ex) s (fun l s' => G src T s0 l s') := by
  unfold argsM
  refine Part.ask ?_
  split
  · exact Part.pure g
  · refine Part.bind (hx.on hL g) ?_
    intro y s2 g2
    exact comma_p hL hx N _ s2 g2
theorem many_any {k : Int} (h : k = 18 ∨ k = 21) (n : Nat) : manyK k n = true := by
  rcases h with rfl | rfl <;> simp [manyK]
theorem call_p (hL : LnT src T) {ex : PM Int} (hx : ExP src T ex) {N : Nat} : ExP src T (callM src T N ex) := by
  intro s hs
  have g := G.self (src := src) hs
  unfold callM
  refine Part.ask ?_
  refine Part.ask ?_
  refine Part.mod ?_
  refine Part.mod ?_
  refine Part.bind (args_p hL hx (g.name.want [40])) ?_
  intro l s1 g1
  refine Part.mod ?_
  exact (g1.want [41]).nd1 _ rfl (many_any (.inr rfl) _)
theorem right_p (hL : LnT src T) {ex : PM Int} (hx : ExP src T ex) {N : Nat} : ExP src T (rightM src T N ex) := by
  intro s hs
  have g := G.self (src := src) hs
  unfold rightM
  refine Part.ask ?_
  refine Part.ask ?_
  split
  · exact Part.mod (g.next.nd1 _ rfl rfl)
  refine Part.ask ?_
  split
  · refine Part.mod ?_
    refine Part.mod ?_
    refine Part.bind (hx.on hL (g.next.want [40])) ?_
    intro x s2 g2
    refine Part.mod ?_
    exact (g2.want [41]).nd1 _ rfl rfl
  refine Part.ask ?_
  split
  · exact call_p hL hx s hs
  · exact hx s hs
theorem ended_p {s0 s : PS} {xs : List Int} (g : G src T s0 xs s) (n : Nd) (hln : n.ln = lineS src T s0) (hk : manyK n.k xs.length = true) : Part (endedM T n xs) s (fun x s' => G src T s0 [x] s') := by
  unfold endedM
  exact Part.mod ((g.want [59]).nd1 _ hln hk)
theorem change_p (hL : LnT src T) {ex : PM Int} (hx : ExP src T ex) {N : Nat} {s : PS} (hs : s.i < T.length) : Part (changeM src T N ex (lineS src T s)) s (fun x s' => G src T s [x] s') := by
  have g := G.self (src := src) hs
  unfold changeM
  refine Part.ask ?_
  refine Part.mod ?_
  refine Part.ask ?_
  split
  · refine Part.bind (g.name.open _) ?_
    intro _ s1 g1
    refine Part.bind (hx.on hL g1) ?_
    intro y s2 g2
    refine Part.bind (g2.shut _) ?_
    intro _ s3 g3
    refine Part.mod ?_
    refine Part.bind (hx.on hL (g3.want [61])) ?_
    intro z s4 g4
    exact ended_p g4 _ rfl rfl
  · refine Part.mod ?_
    refine Part.bind ((right_p hL hx).on hL (g.name.want [61])) ?_
    intro z s4 g4
    exact ended_p g4 _ rfl rfl
theorem choice_p (hL : LnT src T) {ex bl : PM Int} (hx : ExP src T ex) (hb : ExP src T bl) {s : PS} (hs : s.i < T.length) : Part (choiceM T ex bl (lineS src T s)) s (fun x s' => G src T s [x] s') := by
  have g := G.self (src := src) hs
  unfold choiceM
  refine Part.mod ?_
  refine Part.bind (hx.on hL g.next) ?_
  intro x s1 g1
  refine Part.bind (hb.on hL g1) ?_
  intro y s2 g2
  refine Part.ask ?_
  split
  · refine Part.mod ?_
    refine Part.bind (hb.on hL g2.next) ?_
    intro z s3 g3
    exact g3.nd1 _ rfl rfl
  · exact g2.nd1 _ rfl rfl
theorem statement_p (hL : LnT src T) {ex bl : PM Int} (hx : ExP src T ex) (hb : ExP src T bl) {N : Nat} : ExP src T (statementM src T N ex bl) := by
  intro s hs
  have g := G.self (src := src) hs
  unfold statementM
  refine Part.ask ?_
  refine Part.ask ?_
  split
  · exact choice_p hL hx hb hs
  refine Part.ask ?_
  split
  · refine Part.mod ?_
    refine Part.bind (hx.on hL g.next) ?_
    intro x s1 g1
    refine Part.bind (hb.on hL g1) ?_
    intro y s2 g2
    exact g2.nd1 _ rfl rfl
  refine Part.ask ?_
  split
  · refine Part.bind (call_p hL hx s hs) ?_
    intro x s1 g1
    exact ended_p g1 _ rfl rfl
  refine Part.ask ?_
  split
  · refine Part.mod ?_
    refine Part.bind (hx.on hL g.next) ?_
    intro x s1 g1
    exact ended_p g1 _ rfl rfl
  refine Part.ask ?_
  split
  · refine Part.mod ?_
    refine Part.ask ?_
    split
    · exact ended_p g.next _ rfl rfl
    · refine Part.bind (hx.on hL g.next) ?_
      intro x s1 g1
      exact ended_p g1 _ rfl rfl
  refine Part.ask ?_
  split
  · refine Part.mod ?_
    refine Part.ask ?_
    refine Part.mod ?_
    refine Part.mod ?_
    refine Part.bind ((right_p hL hx).on hL (g.next.name.want [61])) ?_
    intro x s1 g1
    exact ended_p g1 _ rfl rfl
  · exact change_p hL hx hs
theorem stms_p (hL : LnT src T) {st : PM Int} (hst : ExP src T st) {s0 : PS} : ∀ n (l : List Int) s, G src T s0 l s → Part (stmsR T st n l) s (fun l s' => G src T s0 l s') := by
  intro n
  induction n with
  | zero => intro x s _; exact Part.none
  | succ n ih =>
    intro l s g
    unfold stmsR
    refine Part.ask ?_
    split
    · refine Part.bind (hst.on hL g) ?_
      intro y s2 g2
      exact ih _ s2 g2
    · exact Part.pure g
theorem block_p (hL : LnT src T) {st : PM Int} (hst : ExP src T st) {N : Nat} {s : PS} (hs : s.i < T.length) : Part (blockM src T N st) s (fun x s' => G src T s [x] s' ∧ (s'.nd.getD x.toNat ⟨0, 0, 0, [], []⟩).k = 18 ∧ 0 ≤ x) := by
  have g := G.self (src := src) hs
  unfold blockM
  refine Part.ask ?_
  refine Part.bind (g.open _) ?_
  intro _ s1 g1
  refine Part.bind (stms_p hL hst N [] s1 g1) ?_
  intro l s2 g2
  refine Part.bind (g2.shut _) ?_
  intro _ s3 g3
  exact g3.node _ rfl (many_any (.inl rfl) _)
theorem st_p (hL : LnT src T) {N : Nat} : ∀ n, ExP src T (stM src T N n) := by
  intro n
  induction n with
  | zero => intro s hs; exact Part.none
  | succ n ih =>
    unfold stM
    exact statement_p hL (ex_p hL N 0) (fun s hs => (block_p hL ih hs).mono fun _ _ h => h.1)

theorem kind_p {s0 s : PS} {xs : List Int} (g : G src T s0 xs s) : Part (kindM T) s (fun _ s' => G src T s0 xs s') := by
  unfold kindM
  refine Part.ask ?_
  split
  · refine Part.ask ?_
    refine Part.mod ?_
    exact Part.pure g.next
  · refine Part.mod ?_
    exact Part.pure (g.fail 20)
theorem param_p {s0 s : PS} {xs : List Int} (g : G src T s0 xs s) : Part (paramM T) s (fun _ s' => G src T s0 xs s') := by
  unfold paramM
  refine Part.ask ?_
  refine Part.mod ?_
  refine Part.bind (kind_p g.name) ?_
  intro t s1 g1
  exact Part.pure g1
theorem paramsR_p {s0 : PS} {xs : List Int} : ∀ n (l : List (List UInt8 × Int)) s, G src T s0 xs s → Part (paramsR T n l) s (fun _ s' => G src T s0 xs s') := by
  intro n
  induction n with
  | zero => intro x s _; exact Part.none
  | succ n ih =>
    intro l s g
    unfold paramsR
    refine Part.ask ?_
    split
    · refine Part.mod ?_
      refine Part.bind (param_p g.next) ?_
      intro y s2 g2
      exact ih _ s2 g2
    · exact Part.pure g
theorem params_p {N : Nat} {s0 s : PS} {xs : List Int} (g : G src T s0 xs s) : Part (paramsM T N) s (fun _ s' => G src T s0 xs s') := by
  unfold paramsM
  refine Part.ask ?_
  split
  · exact Part.pure g
  · refine Part.bind (param_p g) ?_
    intro y s2 g2
    exact paramsR_p N _ s2 g2
theorem ret_p {s0 s : PS} {xs : List Int} (g : G src T s0 xs s) : Part (retM T) s (fun _ s' => G src T s0 xs s') := by
  unfold retM
  refine Part.ask ?_
  split
  · exact Part.pure g
  · exact kind_p g

def Bod (s : PS) (x : Int) : Prop := (s.nd.getD x.toNat ⟨0, 0, 0, [], []⟩).k = 18 ∧ 0 ≤ x
theorem function_p (hL : LnT src T) {N : Nat} {s0 s : PS} {xs : List Int} (g : G src T s0 xs s) : Part (functionM src T N) s (fun f s' => G src T s0 (xs ++ [f.body]) s' ∧ Bod s' f.body) := by
  unfold functionM
  refine Part.ask ?_
  refine Part.mod ?_
  refine Part.ask ?_
  refine Part.mod ?_
  refine Part.mod ?_
  refine Part.bind (params_p ((g.want [102, 110]).name.want [40])) ?_
  intro ps s1 g1
  refine Part.mod ?_
  refine Part.bind (ret_p (g1.want [41])) ?_
  intro r s2 g2
  refine Part.bind (block_p hL (st_p hL N) g2.2.1) ?_
  rintro y s3 ⟨g3, g4, g5⟩
  exact Part.pure ⟨g2.cat hL g3, g4, g5⟩
theorem Bod.up {s s' : PS} {x : Int} (h : Bod s x) (hx : ∃ nd, s'.nd = s.nd ++ nd) : Bod s' x := by
  obtain ⟨nd, hn⟩ := hx
  refine ⟨?_, h.2⟩
  have h1 := h.1
  by_cases hl : x.toNat < s.nd.length
  · rw [hn, List.getD_eq_getElem?_getD, List.getElem?_append_left hl, ← List.getD_eq_getElem?_getD]
    exact h1
  · exfalso
    rw [List.getD_eq_getElem?_getD, List.getElem?_eq_none (by omega)] at h1
    exact absurd h1 (by decide)
theorem fns_p (hL : LnT src T) {N : Nat} {s0 : PS} : ∀ n (l : List Fnc) s, G src T s0 (l.map Fnc.body) s → (∀ f ∈ l, Bod s f.body) → Part (fnsR src T N n l) s (fun l s' => G src T s0 (l.map Fnc.body) s' ∧ ∀ f ∈ l, Bod s' f.body) := by
  intro n
  induction n with
  | zero => intro x s _ _; exact Part.none
  | succ n ih =>
    intro l s g hb
    unfold fnsR
    refine Part.ask ?_
    split
    · have hf := function_p hL (N := N) (G.self (src := src) g.2.1)
      refine Part.bind hf ?_
      rintro y s2 ⟨g2, h2⟩
      refine ih _ s2 (by rw [List.map_append]; exact g.cat hL g2) ?_
      intro f hf
      rcases List.mem_append.mp hf with h | h
      · obtain ⟨_, _, nd, hn, _⟩ := g2
        exact (hb f h).up ⟨nd, hn⟩
      · rw [List.mem_singleton.mp h]
        exact h2
    · exact Part.pure ⟨g, hb⟩
end
end Go.Proofs.YtgelggdgbmldiaaGreatDoor

namespace Go.Proofs.YtgelggdgbmldiaaGreatDoor
set_option linter.unusedVariables false
set_option linter.unusedSimpArgs false

theorem Fo.roots {b : Nat} {nd : List Nd} {xs : List Int} (h : Fo b nd xs) : xs.Pairwise (· < ·) ∧ ∀ x ∈ xs, ∃ j : Nat, x = ((b + j : Nat) : Int) ∧ j < nd.length := by
  induction h with
  | nil b => exact ⟨List.Pairwise.nil, fun x hx => by cases hx⟩
  | cat h1 h2 ih1 ih2 =>
    rename_i b nd nd' xs ys
    refine ⟨List.pairwise_append.mpr ⟨ih1.1, ih2.1, ?_⟩, ?_⟩
    · intro x hx y hy
      obtain ⟨j, rfl, hj⟩ := ih1.2 x hx
      obtain ⟨k, rfl, hk⟩ := ih2.2 y hy
      omega
    · intro x hx
      rw [List.length_append]
      rcases List.mem_append.mp hx with h | h
      · obtain ⟨j, e, hj⟩ := ih1.2 x h
        exact ⟨j, e, by omega⟩
      · obtain ⟨j, e, hj⟩ := ih2.2 x h
        exact ⟨nd.length + j, by rw [e]; omega, by omega⟩
  | node n h1 h2 h3 ih =>
    rename_i b nd
    refine ⟨List.pairwise_singleton _ _, ?_⟩
    intro x hx
    rw [List.mem_singleton.mp hx]
    exact ⟨nd.length, rfl, by rw [List.length_append]; exact Nat.lt_succ_self _⟩

/-- A node and what is below it. -/
def Kid (b : Nat) (nd : List Nd) (i : Nat) (n : Nd) : Prop :=
  manyK n.k n.l.length = true ∧ n.l.Pairwise (· < ·) ∧ ∀ x ∈ n.l, ∃ (j : Nat) (m : Nd), x = ((b + j : Nat) : Int) ∧ j < i ∧ nd[j]? = some m ∧ n.ln ≤ m.ln
theorem Fo.kids {b : Nat} {nd : List Nd} {xs : List Int} (h : Fo b nd xs) : ∀ i n, nd[i]? = some n → Kid b nd i n := by
  induction h with
  | nil b => intro i n hn; simp at hn
  | cat h1 h2 ih1 ih2 =>
    rename_i b nd nd' xs ys
    intro i n hn
    by_cases hi : i < nd.length
    · rw [List.getElem?_append_left hi] at hn
      obtain ⟨k1, k2, k3⟩ := ih1 i n hn
      refine ⟨k1, k2, fun x hx => ?_⟩
      obtain ⟨j, m, e, hj, hm, hl⟩ := k3 x hx
      exact ⟨j, m, e, hj, by rw [List.getElem?_append_left (by omega)]; exact hm, hl⟩
    · rw [List.getElem?_append_right (by omega)] at hn
      obtain ⟨k1, k2, k3⟩ := ih2 (i - nd.length) n hn
      refine ⟨k1, k2, fun x hx => ?_⟩
      obtain ⟨j, m, e, hj, hm, hl⟩ := k3 x hx
      exact ⟨nd.length + j, m, by rw [e]; omega, by omega, by rw [List.getElem?_append_right (by omega), Nat.add_sub_cancel_left]; exact hm, hl⟩
  | node n h1 h2 h3 ih =>
    rename_i b nd
    intro i n' hn
    by_cases hi : i < nd.length
    · rw [List.getElem?_append_left hi] at hn
      obtain ⟨k1, k2, k3⟩ := ih i n' hn
      refine ⟨k1, k2, fun x hx => ?_⟩
      obtain ⟨j, m, e, hj, hm, hl⟩ := k3 x hx
      exact ⟨j, m, e, hj, by rw [List.getElem?_append_left (by omega)]; exact hm, hl⟩
    · have hi2 : i = nd.length := by
        have := (List.getElem?_eq_some_iff.mp hn).1
        rw [List.length_append] at this
        have h1 : [n].length = 1 := rfl
        omega
      subst hi2
      rw [List.getElem?_append_right (Nat.le_refl _), Nat.sub_self] at hn
      obtain rfl : n = n' := Option.some.inj hn
      refine ⟨h3, h1.roots.1, fun x hx => ?_⟩
      obtain ⟨j, e, hj⟩ := h1.roots.2 x hx
      exact ⟨j, nd[j], e, hj, by rw [List.getElem?_append_left hj]; exact List.getElem?_eq_getElem hj, h2 _ (List.getElem_mem hj)⟩

theorem Fo.count {b : Nat} {nd : List Nd} {xs : List Int} (h : Fo b nd xs) (v : Int) : (nd.flatMap Nd.l).count v + xs.count v = if (b : Int) ≤ v ∧ v < (b : Int) + nd.length then 1 else 0 := by
  induction h with
  | nil b => rw [if_neg (by rintro ⟨h1, h2⟩; simp at h2; omega)]; rfl
  | cat h1 h2 ih1 ih2 =>
    rename_i b nd nd' xs ys
    rw [List.flatMap_append, List.count_append, List.count_append, List.length_append]
    rw [Int.natCast_add] at ih2 ⊢
    by_cases c1 : (b : Int) ≤ v ∧ v < (b : Int) + nd.length
    · rw [if_pos c1] at ih1
      rw [if_neg (by omega)] at ih2
      rw [if_pos (by omega)]
      omega
    · rw [if_neg c1] at ih1
      by_cases c2 : (b : Int) + nd.length ≤ v ∧ v < (b : Int) + nd.length + nd'.length
      · rw [if_pos c2] at ih2
        rw [if_pos (by omega)]
        omega
      · rw [if_neg c2] at ih2
        rw [if_neg (by omega)]
        omega
  | node n h1 h2 h3 ih =>
    rename_i b nd
    have hf : ([n].flatMap Nd.l) = n.l := by simp
    rw [List.flatMap_append, List.count_append, hf, ih, List.length_append]
    have h0 : [n].length = 1 := rfl
    rw [h0]
    by_cases hv : v = ((b + nd.length : Nat) : Int)
    · rw [if_neg (by omega), if_pos (by omega), hv]
      simp
    · rw [List.count_eq_zero_of_not_mem (by simpa using hv)]
      by_cases c : (b : Int) ≤ v ∧ v < (b : Int) + nd.length
      · rw [if_pos c, if_pos (by omega)]
      · rw [if_neg c, if_neg (by omega)]

theorem line_up (l : List UInt8) (a : Int) (k : Nat) : lineL l a ≤ lineL l (a + k) := by
  induction k with
  | zero => exact Nat.le_of_eq (by rw [show a + ((0 : Nat) : Int) = a by omega])
  | succ k ih =>
    rw [show a + ((k + 1 : Nat) : Int) = a + k + 1 by omega, line_next]
    omega
theorem pl_up (s : List UInt8) : ∀ (T : List Tok) (e : Nat), Pl s e T → ∀ i j, i ≤ j → j < T.length → e ≤ (T.getD i default).p ∧ (T.getD i default).p ≤ (T.getD j default).p := by
  intro T
  induction T with
  | nil => intro e h; exact absurd h (fun h => h)
  | cons t ts ih =>
    intro e h i j hij hj
    obtain ⟨h1, h2, h3, h4⟩ := h
    rcases h4 with ⟨rfl, rfl⟩ | ⟨hne, _, _, _, h8⟩
    · have : j = 0 := by simp at hj; exact hj
      subst this
      obtain rfl : i = 0 := by omega
      exact ⟨h1, Nat.le_refl _⟩
    · cases j with
      | zero =>
        obtain rfl : i = 0 := by omega
        exact ⟨h1, Nat.le_refl _⟩
      | succ j =>
        rw [List.length_cons] at hj
        cases i with
        | zero =>
          have := ih _ h8 0 j (Nat.zero_le _) (by omega)
          exact ⟨h1, by show t.p ≤ (ts.getD j default).p; omega⟩
        | succ i =>
          have := ih _ h8 i j (by omega) (by omega)
          exact ⟨by show e ≤ (ts.getD i default).p; omega, this.2⟩
theorem lexL_LnT (src : List UInt8) (h : (lexL src 0).2 = none) : LnT src (lexL src 0).1 := by
  have hp := lexL_places src src 0 0 rfl (Nat.zero_le _) (Nat.le_refl _) (by simpa using gap_nil) h
  refine ⟨List.length_pos_iff.mpr (lexL_ne src 0 h), ?_⟩
  intro i j hij hj
  obtain ⟨h1, h2⟩ := pl_up src _ 0 hp i j hij hj
  have h3 := line_up src ((((lexL src 0).1.getD i default).p : Nat) : Int) (((lexL src 0).1.getD j default).p - ((lexL src 0).1.getD i default).p)
  rwa [show ((((lexL src 0).1.getD i default).p : Nat) : Int) + (((((lexL src 0).1.getD j default).p - ((lexL src 0).1.getD i default).p : Nat)) : Int) = ((((lexL src 0).1.getD j default).p : Nat) : Int) by omega] at h3

/-- What ParseBelow asks of a tree. -/
structure BelowT (nd : List Nd) (fs : List Fnc) : Prop where
  kids : ∀ i n, nd[i]? = some n → Kid 0 nd i n
  bods : ∀ f ∈ fs, ∃ (j : Nat) (m : Nd), f.body = (j : Int) ∧ nd[j]? = some m ∧ m.k = 18
  ones : ∀ j : Nat, j < nd.length → (nd.flatMap Nd.l).count (j : Int) + (fs.map Fnc.body).count (j : Int) = 1
  many : nd.length ≤ 300
  fns : fs.length ≤ 6

theorem belowT_of (N : Nat) (src : List UInt8) (nd : List Nd) (fs : List Fnc) (h : allP N src = some (.inr (nd, fs))) : BelowT nd fs := by
  unfold allP at h
  split at h
  · cases h
  split at h
  · cases h
  rename_i hn
  have hL := lexL_LnT src hn
  cases hr : fnsR src (lexL src 0).1 N N [] ⟨0, 0, 0, [], 0⟩ with
  | none => rw [hr] at h; cases h
  | some r =>
    rw [hr] at h
    obtain ⟨l, s⟩ := r
    have h1 : treeP l s = .inr (nd, fs) := Option.some.inj h
    obtain ⟨g, hb⟩ := fns_p hL (N := N) (s0 := ⟨0, 0, 0, [], 0⟩) N [] ⟨0, 0, 0, [], 0⟩ (G.self hL.1) (fun f hf => by cases hf) l s hr
    unfold treeP at h1
    split at h1
    · split at h1
      · cases h1
      · rename_i hc
        cases h1
        simp only [Bool.or_eq_true, decide_eq_true_eq, not_or] at hc
        obtain ⟨_, _, nd', hnd, hF, _⟩ := g
        have hnd : s.nd = nd' := hnd
        subst hnd
        have hF : Fo 0 s.nd (fs.map Fnc.body) := hF
        refine ⟨hF.kids, ?_, ?_, by omega, by omega⟩
        · intro f hf
          obtain ⟨b1, b2⟩ := hb f hf
          obtain ⟨j, e, hj⟩ := hF.roots.2 f.body (List.mem_map_of_mem hf)
          rw [Nat.zero_add] at e
          refine ⟨j, s.nd[j], e, List.getElem?_eq_getElem hj, ?_⟩
          rw [e, Int.toNat_natCast, List.getD_eq_getElem?_getD, List.getElem?_eq_getElem hj] at b1
          exact b1
        · intro j hj
          have := hF.count (j : Int)
          rw [if_pos (by omega)] at this
          exact this
    · cases h1
end Go.Proofs.YtgelggdgbmldiaaGreatDoor

namespace Go.Proofs.YtgelggdgbmldiaaGreatDoor
open Go Go.RowKit Go.Shelf
set_option linter.unusedVariables false
set_option linter.unusedSimpArgs false

def tmV (m : Nat) (acc : List Int) : List Value := (List.range m).map fun (j : Nat) => .int .i64 ((acc.count (j : Int) : Nat) : Int)
theorem tmV_at {m : Nat} {acc : List Int} {j : Nat} (h : j < m) : (tmV m acc)[j]? = some (.int .i64 ((acc.count (j : Int) : Nat) : Int)) := by
  unfold tmV
  rw [List.getElem?_map, List.getElem?_range h]
  rfl
theorem tmV_len (m : Nat) (acc : List Int) : (tmV m acc).length = m := by unfold tmV; rw [List.length_map, List.length_range]
theorem tmV_set {m : Nat} {acc : List Int} {j : Nat} (h : j < m) : (tmV m acc).set j (.int .i64 ((acc.count (j : Int) : Nat) + 1 : Int)) = tmV m (acc ++ [(j : Int)]) := by
  apply List.ext_getElem?
  intro k
  by_cases hk : k < m
  · rw [tmV_at hk]
    by_cases e : j = k
    · subst e
      rw [List.getElem?_set_self (by rw [tmV_len]; exact h), List.count_append]
      simp
    · rw [List.getElem?_set_ne e, tmV_at hk, List.count_append]
      rw [List.count_eq_zero_of_not_mem (l := [(j : Int)]) (by simp; omega)]
      rfl
  · rw [List.getElem?_eq_none (by rw [List.length_set, tmV_len]; omega), List.getElem?_eq_none (by rw [tmV_len]; omega)]
theorem tmV_new (m : Nat) : madeCells #[Value.int .i64 0] m = (tmV m []).toArray := by
  apply Array.ext'
  rw [toList_madeCells_one]
  unfold tmV
  apply List.ext_getElem?
  intro k
  by_cases hk : k < m
  · simp [hk]
  · simp [hk]
theorem flat_next {nd : List Nd} {i : Nat} {n : Nd} (h : nd[i]? = some n) : (nd.take (i + 1)).flatMap Nd.l = (nd.take i).flatMap Nd.l ++ n.l := by
  obtain ⟨hi, e⟩ := List.getElem?_eq_some_iff.mp h
  rw [List.take_add_one, h, List.flatMap_append]
  simp

theorem take_next {l : List Int} {q : Nat} {x : Int} (h : l.getD q 0 = x) (hq : q < l.length) : l.take q ++ [x] = l.take (q + 1) := by
  rw [List.take_add_one, List.getElem?_eq_getElem hq]
  rw [List.getD_eq_getElem?_getD, List.getElem?_eq_getElem hq] at h
  have h : l[q] = x := h
  rw [h]
  rfl
theorem acc_le {nd : List Nd} {fs : List Fnc} (H : BelowT nd fs) {i q j : Nat} {n : Nd} (h : nd[i]? = some n) (hj : j < nd.length) : ((nd.take i).flatMap Nd.l ++ n.l.take q).count (j : Int) ≤ 1 := by
  have h1 := H.ones j hj
  have h2 : nd.flatMap Nd.l = ((nd.take i).flatMap Nd.l ++ n.l) ++ (nd.drop (i + 1)).flatMap Nd.l := by
    rw [← flat_next h, ← List.flatMap_append, List.take_append_drop]
  rw [h2, List.count_append, List.count_append] at h1
  rw [List.count_append]
  have h3 := (List.take_sublist q n.l).count_le (j : Int)
  omega
theorem asc_le : ∀ (l : List Int) (lo hi : Int), l.Pairwise (· < ·) → (∀ x ∈ l, lo ≤ x ∧ x < hi) → l.length ≤ (hi - lo).toNat := by
  intro l
  induction l with
  | nil => intro lo hi _ _; exact Nat.zero_le _
  | cons a l ih =>
    intro lo hi hp h
    rw [List.pairwise_cons] at hp
    have ha := h a List.mem_cons_self
    have h1 := ih (a + 1) hi hp.2 (fun x hx => ⟨by have := hp.1 x hx; omega, (h x (List.mem_cons_of_mem _ hx)).2⟩)
    rw [List.length_cons]
    omega
theorem Kid.at {nd : List Nd} {i : Nat} {n : Nd} (h : Kid 0 nd i n) {q : Nat} (hq : q < n.l.length) : ∃ (j : Nat) (mm : Nd), n.l.getD q 0 = (j : Int) ∧ j < i ∧ nd[j]? = some mm ∧ n.ln ≤ mm.ln := by
  obtain ⟨j, mm, e, hj, hm, hl⟩ := h.2.2 n.l[q] (List.getElem_mem hq)
  refine ⟨j, mm, ?_, hj, hm, hl⟩
  rw [List.getD_eq_getElem?_getD, List.getElem?_eq_getElem hq, ← Nat.zero_add j]
  exact e
theorem Kid.len {nd : List Nd} {i : Nat} {n : Nd} (h : Kid 0 nd i n) : n.l.length ≤ i := by
  have := asc_le n.l 0 i h.2.1 (fun x hx => by
    obtain ⟨j, mm, e, hj, hm, hl⟩ := h.2.2 x hx
    omega)
  omega
theorem Kid.asc {nd : List Nd} {i : Nat} {n : Nd} (h : Kid 0 nd i n) {q : Nat} (hq : q + 1 < n.l.length) : n.l.getD q 0 < n.l.getD (q + 1) 0 := by
  have := List.pairwise_iff_getElem.mp h.2.1 q (q + 1) (by omega) hq (Nat.lt_succ_self q)
  rw [List.getD_eq_getElem?_getD, List.getElem?_eq_getElem (by omega), List.getD_eq_getElem?_getD, List.getElem?_eq_getElem hq]
  exact this
theorem many_cases {k : Int} {n : Nat} (h : manyK k n = true) : ((k = 1 ∨ k = 2 ∨ k = 3 ∨ k = 4 ∨ k = 19) ∧ n = 0) ∨ ((k = 5 ∨ k = 6 ∨ k = 7 ∨ k = 8 ∨ k = 10 ∨ k = 11 ∨ k = 13 ∨ k = 14 ∨ k = 20) ∧ n = 1) ∨
  ((k = 9 ∨ k = 12 ∨ k = 16) ∧ n = 2) ∨ (k = 15 ∧ (n = 2 ∨ n = 3)) ∨ (k = 17 ∧ n ≤ 1) ∨ (k = 18 ∨ k = 21) := by
  unfold manyK at h
  simp only [Bool.or_eq_true, Bool.and_eq_true, decide_eq_true_eq] at h
  rcases h with ((((h | h) | h) | h) | h) | h
  · exact .inl h
  · exact .inr (.inl h)
  · exact .inr (.inr (.inl h))
  · exact .inr (.inr (.inr (.inl h)))
  · exact .inr (.inr (.inr (.inr (.inl h))))
  · exact .inr (.inr (.inr (.inr (.inr h))))

/-- What is refused bears an error. -/
theorem errs_ne (N : Nat) (src : List UInt8) (p er : Nat) (h : allP N src = some (.inl (p, er))) : er ≠ 0 := by
  unfold allP at h
  split at h
  · cases h; decide
  split at h
  · rename_i pe hl
    have h1 := Option.some.inj h
    have h2 : pe = (p, er) := Sum.inl.inj h1
    rw [h2] at hl
    have := (lexL_cut src 0 p er hl).2.2.2
    omega
  · rename_i hn
    cases hr : fnsR src (lexL src 0).1 N N [] ⟨0, 0, 0, [], 0⟩ with
    | none => rw [hr] at h; cases h
    | some r =>
      rw [hr] at h
      obtain ⟨l, s⟩ := r
      have h1 : treeP l s = .inl (p, er) := Option.some.inj h
      unfold treeP at h1
      split at h1
      · split at h1
        · cases h1; decide
        · cases h1
      · cases h1
        assumption

set_option maxRecDepth 100000 in
set_option maxHeartbeats 16000000 in
theorem short_any (s : ByteArray) (w : World) : Calls Tryz.prog 7 #[.string s] w fun e w' => (∃ t : ByteArray, t.size ≤ 700 ∧ e = .returned (.string t)) ∧ w' = w := by
  by_cases h : 700 < s.size
  · have hI : (700 : Int) < (s.size : Int) := by omega
    have hI2 : (700 : Int) ≤ (s.size : Int) := by omega
    have H := Lib.hid (show (s.extract 0 700).size ≤ 700 by rw [ByteArray.size_extract]; omega)
    clear h
    go_enter Tryz.func7, Tryz.ntmps7
    go_wp2
    go_ret
    exact ⟨⟨_, H.out, rfl⟩, rfl⟩
  · have hI : ¬ (700 : Int) < (s.size : Int) := by omega
    have hd : decide ((700 : Int) < (s.size : Int)) = false := decide_eq_false hI
    go_enter Tryz.func7, Tryz.ntmps7
    go_wp2
    go_ret
    exact ⟨⟨s, by omega, rfl⟩, rfl⟩
end Go.Proofs.YtgelggdgbmldiaaGreatDoor

namespace Go.Proofs.YtgelggdgbmldiaaGreatDoor
open Go Go.RowKit Go.Shelf
set_option linter.unusedVariables false
set_option linter.unusedSimpArgs false

abbrev Res := (Nat × Nat) ⊕ (List Nd × List Fnc)
def ndsOf : Res → List Nd | .inl _ => [] | .inr t => t.1
def fnsOf : Res → List Fnc | .inl _ => [] | .inr t => t.2
def atOf : Res → Nat | .inl p => p.1 | .inr _ => 0
def erOf : Res → Nat | .inl p => p.2 | .inr _ => 0

theorem treeR_nil (w : World) : TreeR 0 w none none [] [] := ⟨⟨[], rfl, fun h => absurd h (by simp [flatN]), fun x hx => by cases hx⟩, ⟨[], rfl, fun h => absurd h (by simp [flatF]), fun x hx => by cases hx⟩⟩
theorem treeE_all {res : Res} {e : Ending} {w' : World} (h : TreeE 0 res e w') : ∃ A c A' c', e = .returned (.tuple #[.agg #[.slice A (ndsOf res).length c, .slice A' (fnsOf res).length c'], .int .i64 (atOf res : Int), .int .i64 (erOf res : Int)]) ∧ TreeR 0 w' A A' (ndsOf res) (fnsOf res) := by
  cases res with
  | inl p => exact ⟨none, 0, none, 0, h, treeR_nil w'⟩
  | inr t =>
    obtain ⟨A, c, A', c', h1, h2⟩ := h
    exact ⟨A, c, A', c', h1, h2⟩

theorem below_len : ∀ (l : List Int) (b i : Nat), l.Pairwise (· < ·) → (∀ x ∈ l, ∃ j : Nat, x = (j : Int) ∧ b ≤ j ∧ j < i) → l.length ≤ i - b := by
  intro l
  induction l with
  | nil => intro b i _ _; exact Nat.zero_le _
  | cons a l ih =>
    intro b i hp hx
    obtain ⟨j, e, h1, h2⟩ := hx a (List.mem_cons_self ..)
    have hp2 := List.pairwise_cons.1 hp
    have := ih (j + 1) i hp2.2 (fun x hxm => by
      obtain ⟨k, e2, h3, h4⟩ := hx x (List.mem_cons_of_mem _ hxm)
      have h5 := hp2.1 x hxm
      exact ⟨k, e2, by omega, h4⟩)
    rw [List.length_cons]
    omega
structure Fit (nd : List Nd) (fs : List Fnc) : Prop where
  nds : nd.length ≤ 300
  kids : ∀ x ∈ nd, x.l.length ≤ 300
  fns : fs.length ≤ 6
  prs : ∀ x ∈ fs, x.ps.length ≤ 3
theorem fit_of {N : Nat} {src : List UInt8} {res : Res} (h : allP N src = some res) : Fit (ndsOf res) (fnsOf res) := by
  cases res with
  | inl p => exact ⟨Nat.zero_le _, fun x hx => (by cases hx), Nat.zero_le _, fun x hx => (by cases hx)⟩
  | inr t =>
    obtain ⟨nd, fs⟩ := t
    have hB := belowT_of N src nd fs h
    refine ⟨hB.many, fun x hx => ?_, hB.fns, ?_⟩
    · obtain ⟨i, hi, e⟩ := List.getElem_of_mem hx
      obtain ⟨_, h1, h2⟩ := hB.kids i x ((List.getElem?_eq_getElem (show i < nd.length from hi)).trans (congrArg some e))
      have := below_len x.l 0 i h1 (fun y hy => by
        obtain ⟨j, m, e1, e2, _, _⟩ := h2 y hy
        exact ⟨j, by rw [e1]; omega, Nat.zero_le _, e2⟩)
      have h3 := hB.many
      have hi : i < nd.length := hi
      omega
    · unfold allP at h
      split at h
      · cases h
      split at h
      · cases h
      cases hr : fnsR src (lexL src 0).1 N N [] ⟨0, 0, 0, [], 0⟩ with
      | none => rw [hr] at h; cases h
      | some r =>
        rw [hr] at h
        obtain ⟨l, s⟩ := r
        have h1 : treeP l s = .inr (nd, fs) := Option.some.inj h
        unfold treeP at h1
        split at h1
        · split at h1
          · cases h1
          · rename_i hc
            cases h1
            intro x hx
            simp only [Bool.or_eq_true, not_or] at hc
            have := hc.2
            rw [List.any_eq_true] at this
            by_cases h3 : 3 < x.ps.length
            · exact absurd ⟨x, hx, decide_eq_true h3⟩ this
            · omega
        · cases h1
end Go.Proofs.YtgelggdgbmldiaaGreatDoor

namespace Go.Proofs.YtgelggdgbmldiaaGreatDoor
open Go Go.RowKit Go.Shelf
set_option linter.unusedVariables false
set_option linter.unusedSimpArgs false

/-- A source, to the program's parser. -/
theorem src_any (s : ByteArray) (hs : s.size ≤ 1000) (res : Res) (h : allP 6100 s.data.toList = some res) (w : World) (he : ErrW w) : Calls Tryz.prog 8 #[.string s] w fun e w' => ∃ A c A' c', e = .returned (.tuple #[.agg #[.slice A (ndsOf res).length c, .slice A' (fnsOf res).length c'], .int .i64 (atOf res : Int), .int .i64 (erOf res : Int)]) ∧ TreeR 0 w' A A' (ndsOf res) (fnsOf res) ∧ Keeps (fun _ => False) w w' :=
  (pall_any s hs 6100 (by omega) res h w he).mono fun e w' ⟨h1, k⟩ => by
    obtain ⟨A, c, A', c', h2, h3⟩ := treeE_all h1
    exact ⟨A, c, A', c', h2, h3, k⟩
/-- A source, to the document's reader. -/
theorem rsrc_any (s : ByteArray) (hs : s.size ≤ 1000) (res : Res) (h : allP 6100 s.data.toList = some res) (w : World) : Calls Tryz.prog 9 #[.string s] w fun e w' => ∃ A c A' c', e = .returned (.tuple #[.agg #[.slice A (ndsOf res).length c, .slice A' (fnsOf res).length c'], .int .i64 (atOf res : Int), .int .i64 (erOf res : Int)]) ∧ TreeR 0 w' A A' (ndsOf res) (fnsOf res) ∧ Keeps (fun _ => False) w w' :=
  (rpall_any s hs 6100 (by omega) res (allR_eq _ _ _ h) w).mono fun e w' ⟨h1, k⟩ => by
    obtain ⟨A, c, A', c', h2, h3⟩ := treeE_all h1
    exact ⟨A, c, A', c', h2, h3, k⟩

set_option maxRecDepth 100000 in
set_option maxHeartbeats 16000000 in
theorem all_walk (s : ByteArray) (w : World) (he : ErrW w) : Calls Tryz.prog 3 #[.string s] w fun e w' => e = .returned (.bool true) ∧ Keeps (fun _ => False) w w' := by
  have HC := Lib.hid (shown_any w he)
  have HE := Lib.hid he
  clear he
  go_enter Tryz.func3, Tryz.ntmps3
  go_wp2_with fail
  refine HC.out.mono ?_
  rintro e w1 ⟨rfl, k1⟩
  have K1 := Lib.hid k1
  have SC := Lib.hid (short_any s w1)
  clear HC k1
  go_wp2_with fail
  refine SC.out.mono ?_
  rintro e w2 ⟨⟨t, ht, rfl⟩, rfl⟩
  obtain ⟨res, hres⟩ := allP_some t.data.toList 6100 (Nat.le_refl _)
  have HR := Lib.hid hres
  have HFit := Lib.hid (fit_of hres)
  have AC := Lib.hid (src_any t (by omega) res hres w2 (HE.out.keep K1.out))
  have RC : Hid (∀ w3, Calls Tryz.prog 9 #[.string t] w3 fun e w' => ∃ A c A' c', e = .returned (.tuple #[.agg #[.slice A (ndsOf res).length c, .slice A' (fnsOf res).length c'], .int .i64 (atOf res : Int), .int .i64 (erOf res : Int)]) ∧ TreeR 0 w' A A' (ndsOf res) (fnsOf res) ∧ Keeps (fun _ => False) w3 w') := Lib.hid fun w3 => rsrc_any t (by omega) res hres w3
  have TC : Hid (∀ w3, Calls Tryz.prog 11 #[.string t] w3 fun e w' => e = .returned (.int .i64 (typeN t.data.toList)) ∧ w' = w3) := Lib.hid fun w3 => type_any t w3
  have UC : Hid (∀ w3, Calls Tryz.prog 12 #[.string t] w3 fun e w' => e = .returned (.int .i64 (typeN t.data.toList)) ∧ w' = w3) := Lib.hid fun w3 => rtype_any t w3
  generalize typeN t.data.toList = ty at TC UC
  obtain ⟨nd, hnd⟩ : ∃ nd, nd = ndsOf res := ⟨_, rfl⟩
  obtain ⟨fs, hfs⟩ : ∃ fs, fs = fnsOf res := ⟨_, rfl⟩
  rw [← hnd, ← hfs] at AC RC HFit
  generalize (atOf res : Int) = pp at AC RC
  generalize (erOf res : Int) = ee at AC RC
  obtain ⟨m, hm⟩ : ∃ m, m = nd.length := ⟨_, rfl⟩
  obtain ⟨k, hk⟩ : ∃ k, k = fs.length := ⟨_, rfl⟩
  have HM := Lib.hid hm
  have HK := Lib.hid hk
  rw [← hm, ← hk] at AC RC
  clear hnd hfs hm hk SC hres HR ht
  go_wp2_with fail
  refine AC.out.mono ?_
  rintro e w3 ⟨A, c, A', c', rfl, hT, k3⟩
  have K3 := Lib.hid (K1.out.trans k3 (fun _ _ h => h))
  have HT := Lib.hid hT
  clear AC K1 k3 hT
  go_upto_region 4 with fail
  have ka := Keeps.one w3 (.cells #[.slice A m c, .slice A' k c'] 27)
  obtain ⟨X, hX⟩ : ∃ X, X = w3.heap.size := ⟨_, rfl⟩
  obtain ⟨w4, hw⟩ : ∃ w4, w4 = w3.alloc (.cells #[.slice A m c, .slice A' k c'] 27) := ⟨_, rfl⟩
  have HX4 : Hid (Loc w4 (fun _ => False) X [.slice A m c, .slice A' k c']) := Lib.hid (by rw [hw, hX]; exact Loc.new (fun h => h) [.slice A m c, .slice A' k c'] 27)
  rw [← hX]
  rw [← hw] at ka ⊢
  have K4 := Lib.hid (K3.out.trans ka (fun _ _ h => h))
  have HT4 := Lib.hid (HT.out.keep ka)
  have RD := Lib.hid (RC.out w4)
  clear ka hw hX RC HT K3
  go_wp2_with fail
  refine RD.out.mono ?_
  rintro e w5 ⟨B, d, B', d', rfl, hU, k5⟩
  have HX5 := Lib.hid (HX4.out.keeps k5)
  have HT5 := Lib.hid (HT4.out.keep k5)
  have HU5 := Lib.hid hU
  have K5 := Lib.hid (K4.out.trans k5 (fun _ _ h => h))
  clear RD k5 hU HX4 HT4 K4
  go_upto_region 5 with fail
  have ka := Keeps.one w5 (.cells #[.slice B m d, .slice B' k d'] 27)
  obtain ⟨Y, hY⟩ : ∃ Y, Y = w5.heap.size := ⟨_, rfl⟩
  obtain ⟨w6, hw⟩ : ∃ w6, w6 = w5.alloc (.cells #[.slice B m d, .slice B' k d'] 27) := ⟨_, rfl⟩
  have HY6 : Hid (Loc w6 (fun _ => False) Y [.slice B m d, .slice B' k d']) := Lib.hid (by rw [hw, hY]; exact Loc.new (fun h => h) [.slice B m d, .slice B' k d'] 27)
  rw [← hY]
  rw [← hw] at ka ⊢
  have HX6 := Lib.hid (HX5.out.keeps ka)
  have HT6 := Lib.hid (HT5.out.keep ka)
  have HU6 := Lib.hid (HU5.out.keep ka)
  have K6 := Lib.hid (K5.out.trans ka (fun _ _ h => h))
  clear ka hw hY HX5 HT5 HU5 K5
  have QC : Hid (Calls Tryz.prog 10 #[.agg #[.slice A m c, .slice A' k c'], .agg #[.slice B m d, .slice B' k d']] w6 fun e w' => e = .returned (.bool true) ∧ Keeps (fun _ => False) w6 w') := Lib.hid (same_any A A' B B' c c' d d' m k nd fs w6 HT6.out HU6.out HM.out HK.out ⟨by rw [HM.out]; exact Nat.le_trans HFit.out.nds (by omega), fun x hx => Nat.le_trans (HFit.out.kids x hx) (by omega)⟩ (by rw [HK.out]; exact Nat.le_trans HFit.out.fns (by omega)) (fun x hx => Nat.le_trans (HFit.out.prs x hx) (by omega)))
  have x0 := HX6.out.cells 0 _ rfl
  have x1 := HX6.out.cells 1 _ rfl
  have y0 := HY6.out.cells 0 _ rfl
  have y1 := HY6.out.cells 1 _ rfl
  go_wp2_with fail
  refine QC.out.mono ?_
  rintro e w7 ⟨rfl, k7⟩
  have K7 := Lib.hid (K6.out.trans k7 (fun _ _ h => h))
  clear QC k7 x0 x1 y0 y1 HX6 HY6 HT6 HU6 K6
  go_wp2_with fail
  refine (TC.out w7).mono ?_
  rintro e w8 ⟨rfl, rfl⟩
  go_wp2_with fail
  refine (UC.out w8).mono ?_
  rintro e w9 ⟨rfl, rfl⟩
  go_wp2_with fail
  go_ret
  exact ⟨rfl, K7.out⟩

end Go.Proofs.YtgelggdgbmldiaaGreatDoor

namespace Go.Proofs.YtgelggdgbmldiaaGreatDoor
open Go Go.ChangeShapes Go.RowKit
set_option linter.unusedVariables false

theorem gErr : Tryz.prog.globalNamed "strconv.ErrRange" = some 2 := by kernel_rfl
theorem gErrType : (Tryz.prog.globals[2]?).map (·.type) = some 84 := by kernel_rfl
theorem cellsErr : Tryz.prog.cellsOf 111 = 1 := by kernel_rfl
theorem cells9s : Tryz.prog.cellsOf 9 = 1 := by kernel_rfl
theorem starErr : "*" ++ "errors.errorString" = "*errors.errorString" := by decide
theorem rowErr (u : TypeId) (h : Tryz.prog.typeName? 3 u = some "*errors.errorString") : u = 109 :=
  typeName_ptr_named (nm := "errors.errorString") (by rw [starErr]; kernel_rfl) (by kernel_rfl) (by decide) u (by rw [starErr]; exact h)

theorem errW_of_laid {W : World} (h : laidMetH Tryz.prog Rows.parseAllRow.laid W) : ErrW W := by
  rw [MakeChecks.laidMetH_plain _ _ _ (by kernel_rfl)] at h
  have h2 := laidMet.tail (laidMet.tail (laidMet.tail h))
  obtain ⟨a, s, hv, _, _, _⟩ := laid_sentinel h2 gErr gErrType Tryz.underlying84 rowErr Tryz.underlying109 Tryz.underlying111 rfl rfl Tryz.underlying9 cellsErr cells9s
  refine ⟨2, 109, _, gErr, ?_, hv⟩
  have h0 := World.var?_cell gErr hv 0
  exact World.block_lt_of_cell? W ⟨2, 0, none⟩ (by simpa using h0)

theorem below_of {f : Nat} {args : Array Value} {W : World} (h : Calls Tryz.prog f args W fun e w' => e = .returned (.bool true) ∧ Keeps (fun _ => False) W w') : Calls Tryz.prog f args W fun e w' => e = .returned (.bool true) ∧ Below W.heap.size W w' :=
  h.mono fun e w' h => ⟨h.1, h.2.toBelow (Nat.le_refl _) (fun _ h => h.elim)⟩

end Go.Proofs.YtgelggdgbmldiaaGreatDoor
