/-
  Layer 3: what a tree's nodes stand for: expressions, statements, blocks. Written by an AI agent.
-/
import Derived.Test.YtgelggdgbmldiaaDoorMkad
namespace Go.Proofs.YtgelggdgbmldiaaDoor
set_option linter.unusedVariables false
set_option linter.unusedSimpArgs false
inductive Ex where
  | int (n : Int)
  | bool (b : Bool)
  | text (s : List UInt8)
  | var (s : List UInt8)
  | index (s : List UInt8) (a : Ex)
  | len (a : Ex)
  | neg (a : Ex)
  | not (a : Ex)
  | bin (s : List UInt8) (a b : Ex)
inductive Rt where
  | ex (e : Ex)
  | input
  | new (a : Ex)
  | call (s : List UInt8) (l : List Ex)
mutual
inductive Stm where
  | lt (s : List UInt8) (r : Rt)
  | set (s : List UInt8) (r : Rt)
  | put (s : List UInt8) (a b : Ex)
  | doo (s : List UInt8) (l : List Ex)
  | print (a : Ex)
  | ret0
  | ret1 (a : Ex)
  | ifs (c : Ex) (a : Bl)
  | ifelse (c : Ex) (a b : Bl)
  | whil (c : Ex) (a : Bl)
inductive Bl where
  | nil
  | cons (s : Stm) (l : Bl)
end
def signs11 : List (List UInt8) := [[124, 124], [38, 38], [60], [60, 61], [61, 61], [33, 61], [43], [45], [42], [47], [37]]
/-- The node at a place. -/
def At (nd : List Nd) (i k n : Int) (s : List UInt8) (l : List Int) : Prop := ∃ (j : Nat) (ln : Int), i = (j : Int) ∧ nd[j]? = some ⟨k, ln, n, s, l⟩
theorem At.up {nd : List Nd} {i k n : Int} {s : List UInt8} {l : List Int} (h : At nd i k n s l) (ext : List Nd) : At (nd ++ ext) i k n s l := by
  obtain ⟨j, ln, h1, h2⟩ := h
  refine ⟨j, ln, h1, ?_⟩
  rw [List.getElem?_append_left (List.getElem?_eq_some_iff.1 h2).1]
  exact h2
section
variable (Q : List UInt8 → Prop) (nd : List Nd)
def RepE : Ex → Int → Prop
  | .int n, i => At nd i 1 n [] [] ∧ 0 ≤ n ∧ n ≤ 9223372036854775807
  | .bool b, i => At nd i 2 (if b then 1 else 0) [] []
  | .text s, i => At nd i 3 0 s [] ∧ Q s
  | .var s, i => At nd i 4 0 s [] ∧ Q s
  | .index s a, i => ∃ x, At nd i 5 0 s [x] ∧ Q s ∧ RepE a x
  | .len a, i => ∃ x, At nd i 6 0 [] [x] ∧ RepE a x
  | .neg a, i => ∃ x, At nd i 7 0 [] [x] ∧ RepE a x
  | .not a, i => ∃ x, At nd i 8 0 [] [x] ∧ RepE a x
  | .bin s a b, i => ∃ x y, At nd i 9 0 s [x, y] ∧ s ∈ signs11 ∧ RepE a x ∧ RepE b y
def RepEs : List Ex → List Int → Prop
  | [], [] => True
  | e :: l, x :: xs => RepE Q nd e x ∧ RepEs l xs
  | _, _ => False
def RepR : Rt → Int → Prop
  | .ex e, i => RepE Q nd e i
  | .input, i => At nd i 19 0 [] []
  | .new a, i => ∃ x, At nd i 20 0 [] [x] ∧ RepE Q nd a x
  | .call s l, i => ∃ xs, At nd i 21 0 s xs ∧ Q s ∧ RepEs Q nd l xs
mutual
def RepS : Stm → Int → Prop
  | .lt s r, i => ∃ x, At nd i 10 0 s [x] ∧ Q s ∧ RepR Q nd r x
  | .set s r, i => ∃ x, At nd i 11 0 s [x] ∧ Q s ∧ RepR Q nd r x
  | .put s a b, i => ∃ x y, At nd i 12 0 s [x, y] ∧ Q s ∧ RepE Q nd a x ∧ RepE Q nd b y
  | .doo s l, i => ∃ x, At nd i 13 0 [] [x] ∧ RepR Q nd (.call s l) x
  | .print a, i => ∃ x, At nd i 14 0 [] [x] ∧ RepE Q nd a x
  | .ret0, i => At nd i 17 0 [] []
  | .ret1 a, i => ∃ x, At nd i 17 0 [] [x] ∧ RepE Q nd a x
  | .ifs c a, i => ∃ x y ys, At nd i 15 0 [] [x, y] ∧ RepE Q nd c x ∧ At nd y 18 0 [] ys ∧ RepB a ys
  | .ifelse c a b, i => ∃ x y ys z zs, At nd i 15 0 [] [x, y, z] ∧ RepE Q nd c x ∧ At nd y 18 0 [] ys ∧ RepB a ys ∧ At nd z 18 0 [] zs ∧ RepB b zs
  | .whil c a, i => ∃ x y ys, At nd i 16 0 [] [x, y] ∧ RepE Q nd c x ∧ At nd y 18 0 [] ys ∧ RepB a ys
def RepB : Bl → List Int → Prop
  | .nil, [] => True
  | .cons s b, x :: xs => RepS s x ∧ RepB b xs
  | .nil, _ :: _ => False
  | .cons _ _, [] => False
end
end
def massE : Ex → Nat
  | .int _ => 60
  | .bool _ => 60
  | .text s => s.length + 60
  | .var s => s.length + 60
  | .index s a => massE a + (s.length + 60)
  | .len a => massE a + 60
  | .neg a => massE a + 60
  | .not a => massE a + 60
  | .bin s a b => massE a + massE b + (s.length + 60)
def massEs : List Ex → Nat
  | [] => 0
  | e :: l => massE e + massEs l
def massR : Rt → Nat
  | .ex e => massE e
  | .input => 60
  | .new a => massE a + 60
  | .call s l => massEs l + (s.length + 60)
mutual
def massS : Stm → Nat
  | .lt s r => massR r + (s.length + 60)
  | .set s r => massR r + (s.length + 60)
  | .put s a b => massE a + massE b + (s.length + 60)
  | .doo s l => massEs l + (s.length + 60) + 60
  | .print a => massE a + 60
  | .ret0 => 60
  | .ret1 a => massE a + 60
  | .ifs c a => massE c + (massB a + 60) + 60
  | .ifelse c a b => massE c + (massB a + 60) + (massB b + 60) + 60
  | .whil c a => massE c + (massB a + 60) + 60
def massB : Bl → Nat
  | .nil => 0
  | .cons s b => massS s + massB b
end
def sumC : List Nd → Nat
  | [] => 0
  | n :: l => (n.s.length + 60) + sumC l
theorem sumC_append (a b : List Nd) : sumC (a ++ b) = sumC a + sumC b := by
  induction a with
  | nil => simp [sumC]
  | cons n a ih => show (n.s.length + 60) + sumC (a ++ b) = ((n.s.length + 60) + sumC a) + sumC b; rw [ih]; omega
section
variable {Q : List UInt8 → Prop} {nd : List Nd}
theorem RepE.up (ext : List Nd) : ∀ {e : Ex} {i : Int}, RepE Q nd e i → RepE Q (nd ++ ext) e i := by
  intro e
  induction e with
  | int n => exact fun h => ⟨h.1.up ext, h.2⟩
  | bool b => exact fun h => At.up (show At nd _ 2 _ [] [] from h) ext
  | text s => exact fun h => ⟨h.1.up ext, h.2⟩
  | var s => exact fun h => ⟨h.1.up ext, h.2⟩
  | index s a ih => exact fun ⟨x, h1, h2, h3⟩ => ⟨x, h1.up ext, h2, ih h3⟩
  | len a ih => exact fun ⟨x, h1, h3⟩ => ⟨x, h1.up ext, ih h3⟩
  | neg a ih => exact fun ⟨x, h1, h3⟩ => ⟨x, h1.up ext, ih h3⟩
  | not a ih => exact fun ⟨x, h1, h3⟩ => ⟨x, h1.up ext, ih h3⟩
  | bin s a b iha ihb => exact fun ⟨x, y, h1, h2, h3, h4⟩ => ⟨x, y, h1.up ext, h2, iha h3, ihb h4⟩
theorem RepEs.up (ext : List Nd) : ∀ {l : List Ex} {xs : List Int}, RepEs Q nd l xs → RepEs Q (nd ++ ext) l xs
  | [], [], _ => trivial
  | e :: l, x :: xs, h => ⟨RepE.up ext h.1, RepEs.up ext h.2⟩
  | [], _ :: _, h => h.elim
  | _ :: _, [], h => h.elim
theorem RepR.up (ext : List Nd) : ∀ {r : Rt} {i : Int}, RepR Q nd r i → RepR Q (nd ++ ext) r i
  | .ex e, _, h => RepE.up ext (show RepE Q nd e _ from h)
  | .input, _, h => At.up (show At nd _ 19 0 [] [] from h) ext
  | .new a, _, ⟨x, h1, h2⟩ => ⟨x, h1.up ext, RepE.up ext h2⟩
  | .call s l, _, ⟨xs, h1, h2, h3⟩ => ⟨xs, h1.up ext, h2, RepEs.up ext h3⟩
mutual
theorem RepS.up (ext : List Nd) : ∀ {s : Stm} {i : Int}, RepS Q nd s i → RepS Q (nd ++ ext) s i
  | .lt s r, i, h => by unfold RepS at h ⊢; obtain ⟨x, h1, h2, h3⟩ := h; exact ⟨x, h1.up ext, h2, RepR.up ext h3⟩
  | .set s r, i, h => by unfold RepS at h ⊢; obtain ⟨x, h1, h2, h3⟩ := h; exact ⟨x, h1.up ext, h2, RepR.up ext h3⟩
  | .put s a b, i, h => by unfold RepS at h ⊢; obtain ⟨x, y, h1, h2, h3, h4⟩ := h; exact ⟨x, y, h1.up ext, h2, RepE.up ext h3, RepE.up ext h4⟩
  | .doo s l, i, h => by unfold RepS at h ⊢; obtain ⟨x, h1, h3⟩ := h; exact ⟨x, h1.up ext, RepR.up ext h3⟩
  | .print a, i, h => by unfold RepS at h ⊢; obtain ⟨x, h1, h3⟩ := h; exact ⟨x, h1.up ext, RepE.up ext h3⟩
  | .ret0, i, h => by unfold RepS at h ⊢; exact h.up ext
  | .ret1 a, i, h => by unfold RepS at h ⊢; obtain ⟨x, h1, h3⟩ := h; exact ⟨x, h1.up ext, RepE.up ext h3⟩
  | .ifs c a, i, h => by unfold RepS at h ⊢; obtain ⟨x, y, ys, h1, h2, h3, h4⟩ := h; exact ⟨x, y, ys, h1.up ext, RepE.up ext h2, h3.up ext, RepB.up ext h4⟩
  | .ifelse c a b, i, h => by unfold RepS at h ⊢; obtain ⟨x, y, ys, z, zs, h1, h2, h3, h4, h5, h6⟩ := h; exact ⟨x, y, ys, z, zs, h1.up ext, RepE.up ext h2, h3.up ext, RepB.up ext h4, h5.up ext, RepB.up ext h6⟩
  | .whil c a, i, h => by unfold RepS at h ⊢; obtain ⟨x, y, ys, h1, h2, h3, h4⟩ := h; exact ⟨x, y, ys, h1.up ext, RepE.up ext h2, h3.up ext, RepB.up ext h4⟩
theorem RepB.up (ext : List Nd) : ∀ {b : Bl} {xs : List Int}, RepB Q nd b xs → RepB Q (nd ++ ext) b xs
  | .nil, [], _ => by unfold RepB; trivial
  | .cons s b, x :: xs, h => by unfold RepB at h ⊢; exact ⟨RepS.up ext h.1, RepB.up ext h.2⟩
  | .nil, _ :: _, h => by unfold RepB at h; exact h.elim
  | .cons _ _, [], h => by unfold RepB at h; exact h.elim
end
end
/-- What a number stands for. -/
inductive It where
  | e (e : Ex)
  | r (r : Rt)
  | s (s : Stm)
  | b (b : Bl)
def RepI (Q : List UInt8 → Prop) (nd : List Nd) : It → Int → Prop
  | .e e, i => RepE Q nd e i
  | .r r, i => RepR Q nd r i
  | .s s, i => RepS Q nd s i
  | .b b, i => ∃ xs, At nd i 18 0 [] xs ∧ RepB Q nd b xs
def massI : It → Nat
  | .e e => massE e
  | .r r => massR r
  | .s s => massS s
  | .b b => massB b + 60
theorem RepI.up {Q : List UInt8 → Prop} {nd : List Nd} (ext : List Nd) : ∀ {it : It} {i : Int}, RepI Q nd it i → RepI Q (nd ++ ext) it i
  | .e e, _, h => RepE.up ext (show RepE Q nd e _ from h)
  | .r r, _, h => RepR.up ext (show RepR Q nd r _ from h)
  | .s s, _, h => RepS.up ext (show RepS Q nd s _ from h)
  | .b b, _, ⟨xs, h1, h2⟩ => ⟨xs, h1.up ext, RepB.up ext h2⟩
def massL : List (Int × It) → Nat
  | [] => 0
  | p :: l => massI p.2 + massL l
theorem massL_append (a b : List (Int × It)) : massL (a ++ b) = massL a + massL b := by
  induction a with
  | nil => simp [massL]
  | cons n a ih => show massI n.2 + massL (a ++ b) = (massI n.2 + massL a) + massL b; rw [ih]; omega
/-- What was made since a state. -/
def K (Q : List UInt8 → Prop) (s0 : PS) (l : List (Int × It)) (s : PS) : Prop :=
  ∃ ext, s.nd = s0.nd ++ ext ∧ (∀ p ∈ l, RepI Q s.nd p.2 p.1) ∧ massL l ≤ sumC ext ∧ (∀ n ∈ ext, Q n.s) ∧ ∀ j, s0.nd.length ≤ j → j < s.nd.length → ∃ it, RepI Q s.nd it (j : Int) ∧ massI it ≤ sumC ext
section
variable {Q : List UInt8 → Prop} {src : List UInt8} {T : List Tok}
theorem K.self (s : PS) : K Q s [] s := ⟨[], (List.append_nil _).symm, fun p hp => (by cases hp), Nat.zero_le _, fun n hn => (by cases hn), fun j h1 h2 => (by omega)⟩
theorem K.of {s0 s s' : PS} {l : List (Int × It)} (h : K Q s0 l s) (h1 : s'.nd = s.nd) : K Q s0 l s' := by
  obtain ⟨ext, a, b, c, d, e⟩ := h
  exact ⟨ext, by rw [h1, a], by rw [h1]; exact b, c, d, by rw [h1]; exact e⟩
theorem K.cat {s0 s s' : PS} {l l' : List (Int × It)} (h : K Q s0 l s) (h' : K Q s l' s') : K Q s0 (l ++ l') s' := by
  obtain ⟨ext, a, b, c, d, e⟩ := h
  obtain ⟨ext', a', b', c', d', e'⟩ := h'
  refine ⟨ext ++ ext', by rw [a', a, List.append_assoc], fun p hp => ?_, by rw [massL_append, sumC_append]; omega, fun n hn => (List.mem_append.1 hn).elim (d n) (d' n), fun j h1 h2 => ?_⟩
  rotate_left
  · rcases Nat.lt_or_ge j s.nd.length with hj | hj
    · obtain ⟨it, h3, h4⟩ := e j h1 hj
      exact ⟨it, by rw [a']; exact h3.up ext', by rw [sumC_append]; omega⟩
    · obtain ⟨it, h3, h4⟩ := e' j hj h2
      exact ⟨it, h3, by rw [sumC_append]; omega⟩
  rcases List.mem_append.1 hp with hp | hp
  · rw [a']
    exact (b p hp).up ext'
  · exact b' p hp
theorem K.node {s0 s : PS} {l : List (Int × It)} (h : K Q s0 l s) (n : Nd) (xs : List Int) (it : It) (hr : ∀ nd' x, (∀ p ∈ l, RepI Q nd' p.2 p.1) → At nd' x n.k n.n n.s xs → RepI Q nd' it x) (hm : massI it ≤ massL l + (n.s.length + 60)) (hqn : Q n.s) : Part (nodeM n xs) s (fun x s' => K Q s0 [(x, it)] s') := by
  obtain ⟨ext, a, b, c, d, e⟩ := h
  intro x s' hx
  unfold nodeM at hx
  split at hx
  · cases hx
    have hAt : At (s.nd ++ [{ n with l := xs }]) ((s.nd.length : Nat) : Int) n.k n.n n.s xs := ⟨s.nd.length, n.ln, rfl, by
      rw [List.getElem?_append_right (Nat.le_refl _), Nat.sub_self]
      rfl⟩
    have hIt : RepI Q (s.nd ++ [{ n with l := xs }]) it ((s.nd.length : Nat) : Int) := hr _ _ (fun p hp => (b p hp).up _) hAt
    have hMs : massI it ≤ sumC (ext ++ [{ n with l := xs }]) := by
      rw [sumC_append]
      show massI it ≤ sumC ext + ((n.s.length + 60) + 0)
      omega
    refine ⟨ext ++ [{ n with l := xs }], by show s.nd ++ _ = _; rw [a, List.append_assoc], fun p hp => ?_, ?_, fun q hq => (List.mem_append.1 hq).elim (d q) (fun h => by rw [List.mem_singleton.1 h]; exact hqn), fun j h1 h2 => ?_⟩
    · rw [List.mem_singleton.1 hp]
      exact hIt
    · show massI it + 0 ≤ _
      omega
    · rcases Nat.lt_or_ge j s.nd.length with hj | hj
      · obtain ⟨it2, h3, h4⟩ := e j h1 hj
        exact ⟨it2, h3.up _, by rw [sumC_append]; omega⟩
      · have h2 : j < (s.nd ++ [{ n with l := xs }]).length := h2
        rw [List.length_append] at h2
        have : j = s.nd.length := by have e1 : [({ n with l := xs } : Nd)].length = 1 := rfl; omega
        subst this
        exact ⟨it, hIt, hMs⟩
  · cases hx
theorem nd_next (s : PS) : (nextS T s).nd = s.nd := by unfold nextS; split <;> rfl
theorem nd_fail (e : Nat) (s : PS) : (failS T e s).nd = s.nd := by unfold failS; split <;> rfl
theorem nd_want (x : List UInt8) (s : PS) : (wantS T x s).nd = s.nd := by
  unfold wantS
  split
  · exact nd_next s
  · exact nd_fail 20 s
theorem nd_name (s : PS) : (nameS T s).nd = s.nd := by
  unfold nameS
  split
  · exact nd_next s
  · exact nd_fail 20 s
theorem K.next {s0 s : PS} {l : List (Int × It)} (h : K Q s0 l s) : K Q s0 l (nextS T s) := h.of (nd_next s)
theorem K.want {s0 s : PS} {l : List (Int × It)} (h : K Q s0 l s) (x : List UInt8) : K Q s0 l (wantS T x s) := h.of (nd_want x s)
theorem K.name {s0 s : PS} {l : List (Int × It)} (h : K Q s0 l s) : K Q s0 l (nameS T s) := h.of (nd_name s)
theorem K.deep {s0 s : PS} {l : List (Int × It)} (h : K Q s0 l s) (d : Int) : Part (deepS d) s (fun _ s' => K Q s0 l s') := by
  intro x s' hx
  unfold deepS at hx
  split at hx
  · cases hx
    exact h.of rfl
  · cases hx
theorem K.open {s0 s : PS} {l : List (Int × It)} (h : K Q s0 l s) (x : List UInt8) : Part (openM T x) s (fun _ s' => K Q s0 l s') := by
  unfold openM
  refine Part.mod ?_
  refine K.deep ?_ 1
  unfold openS
  refine K.want ?_ x
  split
  · exact h.of (nd_fail 21 s)
  · exact h
theorem K.shut {s0 s : PS} {l : List (Int × It)} (h : K Q s0 l s) (x : List UInt8) : Part (shutM T x) s (fun _ s' => K Q s0 l s') := by
  unfold shutM
  exact Part.mod (K.deep (h.want x) (-1))
def EK (Q : List UInt8 → Prop) (m : PM Int) : Prop := ∀ s, Part m s (fun x s' => ∃ e, K Q s [(x, .e e)] s')
def RK (Q : List UInt8 → Prop) (m : PM Int) : Prop := ∀ s, Part m s (fun x s' => ∃ r, K Q s [(x, .r r)] s')
def SK (Q : List UInt8 → Prop) (m : PM Int) : Prop := ∀ s, Part m s (fun x s' => ∃ r, K Q s [(x, .s r)] s')
def BK (Q : List UInt8 → Prop) (m : PM Int) : Prop := ∀ s, Part m s (fun x s' => ∃ r, K Q s [(x, .b r)] s')
theorem EK.on {m : PM Int} (h : EK Q m) {s0 s : PS} {l : List (Int × It)} (g : K Q s0 l s) : Part m s (fun x s' => ∃ e, K Q s0 (l ++ [(x, .e e)]) s') :=
  (h s).mono fun x s' ⟨e, g'⟩ => ⟨e, g.cat g'⟩
theorem RK.on {m : PM Int} (h : RK Q m) {s0 s : PS} {l : List (Int × It)} (g : K Q s0 l s) : Part m s (fun x s' => ∃ e, K Q s0 (l ++ [(x, .r e)]) s') :=
  (h s).mono fun x s' ⟨e, g'⟩ => ⟨e, g.cat g'⟩
theorem SK.on {m : PM Int} (h : SK Q m) {s0 s : PS} {l : List (Int × It)} (g : K Q s0 l s) : Part m s (fun x s' => ∃ e, K Q s0 (l ++ [(x, .s e)]) s') :=
  (h s).mono fun x s' ⟨e, g'⟩ => ⟨e, g.cat g'⟩
theorem BK.on {m : PM Int} (h : BK Q m) {s0 s : PS} {l : List (Int × It)} (g : K Q s0 l s) : Part m s (fun x s' => ∃ e, K Q s0 (l ++ [(x, .b e)]) s') :=
  (h s).mono fun x s' ⟨e, g'⟩ => ⟨e, g.cat g'⟩
/-- What the tokens' texts are. -/
def QT (Q : List UInt8 → Prop) (T : List Tok) : Prop := Q [] ∧ ∀ s : PS, Q (tokA T s).x
theorem QT.name (h : QT Q T) (s : PS) : Q (nameX T s) := by
  unfold nameX
  split
  · exact h.2 s
  · exact h.1
theorem inside_k {ex : PM Int} (hx : EK Q ex) {a b : List UInt8} {s0 s : PS} {l : List (Int × It)} (g : K Q s0 l s) : Part (insideM T ex a b) s (fun x s' => ∃ e, K Q s0 (l ++ [(x, .e e)]) s') := by
  unfold insideM
  refine Part.bind (g.open a) ?_
  intro _ s1 g1
  refine Part.bind (hx.on g1) ?_
  rintro x s2 ⟨e, g2⟩
  refine Part.bind (g2.shut b) ?_
  intro _ s3 g3
  exact Part.pure ⟨e, g3⟩
theorem Part.toE {m : PM Int} {s0 s : PS} {e : Ex} (h : Part m s (fun x s' => K Q s0 [(x, .e e)] s')) : Part m s (fun x s' => ∃ e, K Q s0 [(x, .e e)] s') := h.mono fun _ _ h => ⟨e, h⟩
theorem Part.toR {m : PM Int} {s0 s : PS} {e : Rt} (h : Part m s (fun x s' => K Q s0 [(x, .r e)] s')) : Part m s (fun x s' => ∃ e, K Q s0 [(x, .r e)] s') := h.mono fun _ _ h => ⟨e, h⟩
theorem Part.toS {m : PM Int} {s0 s : PS} {e : Stm} (h : Part m s (fun x s' => K Q s0 [(x, .s e)] s')) : Part m s (fun x s' => ∃ e, K Q s0 [(x, .s e)] s') := h.mono fun _ _ h => ⟨e, h⟩
theorem variable_k (hq : QT Q T) {ex : PM Int} (hx : EK Q ex) (ln : Int) : EK Q (variableM T ex ln) := by
  intro s
  unfold variableM
  refine Part.ask ?_
  have hn := hq.name s
  refine Part.mod ?_
  refine Part.ask ?_
  have g := (K.self (Q := Q) s).name (T := T)
  split
  · refine Part.bind (inside_k hx g) ?_
    rintro y s2 ⟨e, g2⟩
    exact (g2.node _ [y] (.e (.index (nameX T s) e)) (fun nd' x h ha => ⟨y, ha, hn, h (y, .e e) (by simp)⟩) (by simp [massI, massE, massL]) (by first | exact hq.1 | exact hn | exact hq.2 _)).toE
  · exact (g.node _ [] (.e (.var (nameX T s))) (fun nd' x h ha => ⟨ha, hn⟩) (by simp [massI, massE, massL]) (by first | exact hq.1 | exact hn | exact hq.2 _)).toE
theorem intV_in (x : List UInt8) : 0 ≤ intV x ∧ intV x ≤ 9223372036854775807 := by
  unfold intV
  split
  · omega
  · decide
theorem atom_k (hq : QT Q T) {ex : PM Int} (hx : EK Q ex) : EK Q (atomM src T ex) := by
  intro s
  have g := K.self (Q := Q) s
  unfold atomM
  refine Part.ask ?_
  refine Part.ask ?_
  split
  · exact Part.mod ((g.next.node _ [] (.e (.int (intV (tokA T s).x))) (fun nd' x h ha => ⟨ha, intV_in _⟩) (by simp [massI, massE, massL]) (by first | exact hq.1 | exact hn | exact hq.2 _)).toE)
  split
  · exact Part.mod ((g.next.node _ [] (.e (.text (tokA T s).x)) (fun nd' x h ha => ⟨ha, hq.2 s⟩) (by simp [massI, massE, massL]) (by first | exact hq.1 | exact hn | exact hq.2 _)).toE)
  refine Part.ask ?_
  split
  · exact Part.mod ((g.next.node _ [] (.e (.bool (decide ((tokA T s).x = [116, 114, 117, 101])))) (fun nd' x h ha => by
      show At nd' x 2 _ [] []
      by_cases hc : (tokA T s).x = [116, 114, 117, 101]
      · rw [if_pos hc] at ha
        rw [decide_eq_true hc]
        exact ha
      · rw [if_neg hc] at ha
        rw [decide_eq_false hc]
        exact ha) (by simp [massI, massE, massL]) (by first | exact hq.1 | exact hn | exact hq.2 _)).toE)
  refine Part.ask ?_
  split
  · refine Part.mod ?_
    refine Part.bind (inside_k hx g.next) ?_
    rintro y s2 ⟨e, g2⟩
    exact (g2.node _ [y] (.e (.len e)) (fun nd' x h ha => ⟨y, ha, h (y, .e e) (by simp)⟩) (by simp [massI, massE, massL]) (by first | exact hq.1 | exact hn | exact hq.2 _)).toE
  refine Part.ask ?_
  split
  · exact inside_k hx g
  · exact variable_k hq hx _ s
theorem factor_k (hq : QT Q T) {fac ex : PM Int} (hf : EK Q fac) (hx : EK Q ex) : EK Q (factorM src T fac ex) := by
  intro s
  have g := K.self (Q := Q) s
  unfold factorM
  refine Part.ask ?_
  refine Part.ask ?_
  refine Part.ask ?_
  split
  · refine Part.bind (g.open _) ?_
    intro _ s1 g1
    refine Part.bind (hf.on g1) ?_
    rintro x s2 ⟨e, g2⟩
    refine Part.bind (g2.deep _) ?_
    intro _ s3 g3
    exact (g3.node _ [x] (.e (.not e)) (fun nd' y h ha => ⟨x, ha, h (x, .e e) (by simp)⟩) (by simp [massI, massE, massL]) (by first | exact hq.1 | exact hn | exact hq.2 _)).toE
  refine Part.ask ?_
  split
  · refine Part.bind (g.open _) ?_
    intro _ s1 g1
    refine Part.bind (hf.on g1) ?_
    rintro x s2 ⟨e, g2⟩
    refine Part.bind (g2.deep _) ?_
    intro _ s3 g3
    exact (g3.node _ [x] (.e (.neg e)) (fun nd' y h ha => ⟨x, ha, h (x, .e e) (by simp)⟩) (by simp [massI, massE, massL]) (by first | exact hq.1 | exact hn | exact hq.2 _)).toE
  · exact atom_k hq hx s
theorem signs_mem {lv : Nat} {s : PS} (h : isS T (signsL lv) s = true) : (tokA T s).x ∈ signs11 := by
  unfold isS at h
  rw [Bool.and_eq_true] at h
  have h2 : (tokA T s).x ∈ signsL lv := by simpa using h.2
  have sub : ∀ x ∈ signsL lv, x ∈ signs11 := by
    match lv with
    | 0 => decide
    | 1 => decide
    | 2 => decide
    | 3 => decide
    | _ + 4 => exact (by decide : ∀ x ∈ ([[42], [47], [37]] : List (List UInt8)), x ∈ signs11)
  exact sub _ h2
theorem chain_k (hq : QT Q T) {lv : Nat} {sub : PM Int} (hsub : EK Q sub) {ln : Int} {s0 : PS} : ∀ n (x : Int) (e : Ex) s, K Q s0 [(x, .e e)] s → Part (chainR T lv sub ln n x) s (fun x s' => ∃ e, K Q s0 [(x, .e e)] s') := by
  intro n
  induction n with
  | zero => intro x e s _; exact Part.none
  | succ n ih =>
    intro x e s g
    unfold chainR
    refine Part.ask ?_
    split
    · rename_i hb
      have hm := signs_mem hb
      refine Part.ask ?_
      refine Part.mod ?_
      refine Part.bind (hsub.on g.next) ?_
      rintro y s2 ⟨e2, g2⟩
      refine Part.bind (g2.node _ [x, y] (.e (.bin (tokA T s).x e e2)) (fun nd' z h ha => ⟨x, y, ha, hm, h (x, .e e) (by simp), h (y, .e e2) (by simp)⟩) (by simp [massI, massE, massL]) (hq.2 s)) ?_
      intro z s3 g3
      split
      · exact Part.pure ⟨_, g3⟩
      · exact ih z _ s3 g3
    · exact Part.pure ⟨e, g⟩
theorem ex_k (hq : QT Q T) : ∀ n lv, EK Q (exM src T n lv) := by
  intro n
  induction n with
  | zero => intro lv s; exact Part.none
  | succ n ih =>
    intro lv s
    unfold exM
    split
    · exact factor_k hq (ih 5) (ih 0) s
    · refine Part.ask ?_
      refine Part.bind (ih (lv + 1) s) ?_
      rintro x s1 ⟨e, g1⟩
      exact chain_k hq (ih (lv + 1)) n x e s1 g1
/-- A row of expressions. -/
def eL (ps : List (Int × Ex)) : List (Int × It) := ps.map fun p => (p.1, It.e p.2)
theorem repEs_of {nd : List Nd} : ∀ (ps : List (Int × Ex)), (∀ p ∈ eL ps, RepI Q nd p.2 p.1) → RepEs Q nd (ps.map Prod.snd) (ps.map Prod.fst)
  | [], _ => trivial
  | p :: ps, h => ⟨h (p.1, .e p.2) (by simp [eL]), repEs_of ps fun q hq => h q (by simp only [eL, List.map_cons, List.mem_cons]; exact .inr hq)⟩
theorem mass_eL : ∀ ps : List (Int × Ex), massL (eL ps) = massEs (ps.map Prod.snd)
  | [] => rfl
  | p :: ps => by show massE p.2 + massL (eL ps) = massE p.2 + massEs _; rw [mass_eL ps]
theorem comma_k {ex : PM Int} (hx : EK Q ex) {s0 : PS} : ∀ n (ps : List (Int × Ex)) s, K Q s0 (eL ps) s → Part (commaR T ex n (ps.map Prod.fst)) s (fun l s' => ∃ ps, l = ps.map Prod.fst ∧ K Q s0 (eL ps) s') := by
  intro n
  induction n with
  | zero => intro ps s _; exact Part.none
  | succ n ih =>
    intro ps s g
    unfold commaR
    refine Part.ask ?_
    split
    · refine Part.mod ?_
      refine Part.bind (hx.on g.next) ?_
      rintro y s2 ⟨e, g2⟩
      have h1 : ps.map Prod.fst ++ [y] = (ps ++ [(y, e)]).map Prod.fst := by rw [List.map_append]; rfl
      rw [h1]
      exact ih _ s2 (by rw [show eL (ps ++ [(y, e)]) = eL ps ++ [(y, .e e)] by unfold eL; rw [List.map_append]; rfl]; exact g2)
    · exact Part.pure ⟨ps, rfl, g⟩
theorem args_k {ex : PM Int} (hx : EK Q ex) {N : Nat} {s0 s : PS} (g : K Q s0 [] s) : Part (argsM T N ex) s (fun l s' => ∃ ps, l = ps.map Prod.fst ∧ K Q s0 (eL ps) s') := by
  unfold argsM
  refine Part.ask ?_
  split
  · exact Part.pure ⟨[], rfl, g⟩
  · refine Part.bind (hx.on g) ?_
    rintro y s2 ⟨e, g2⟩
    exact comma_k hx N [(y, e)] s2 g2
theorem call_k (hq : QT Q T) {ex : PM Int} (hx : EK Q ex) {N : Nat} : ∀ s, Part (callM src T N ex) s (fun x s' => ∃ n l, K Q s [(x, .r (.call n l))] s') := by
  intro s
  have g := K.self (Q := Q) s
  unfold callM
  refine Part.ask ?_
  refine Part.ask ?_
  have hn := hq.name s
  refine Part.mod ?_
  refine Part.mod ?_
  refine Part.bind (args_k hx (g.name.want [40])) ?_
  rintro l s1 ⟨ps, rfl, g1⟩
  refine Part.mod ?_
  exact ((g1.want [41]).node _ _ (.r (.call (nameX T s) (ps.map Prod.snd))) (fun nd' x h ha => ⟨_, ha, hn, repEs_of ps h⟩) (by rw [mass_eL]; simp [massI, massR]) hn).mono fun _ _ h => ⟨_, _, h⟩
theorem right_k (hq : QT Q T) {ex : PM Int} (hx : EK Q ex) {N : Nat} : RK Q (rightM src T N ex) := by
  intro s
  have g := K.self (Q := Q) s
  unfold rightM
  refine Part.ask ?_
  refine Part.ask ?_
  split
  · exact Part.mod ((g.next.node _ [] (.r .input) (fun nd' x h ha => by exact ha) (by simp [massI, massR, massL]) (by first | exact hq.1 | exact hn | exact hq.2 _)).toR)
  refine Part.ask ?_
  split
  · refine Part.mod ?_
    refine Part.mod ?_
    refine Part.bind (hx.on (g.next.want [40])) ?_
    rintro x s2 ⟨e, g2⟩
    refine Part.mod ?_
    exact ((g2.want [41]).node _ [x] (.r (.new e)) (fun nd' y h ha => ⟨x, ha, h (x, .e e) (by simp)⟩) (by simp [massI, massR, massL]) (by first | exact hq.1 | exact hn | exact hq.2 _)).toR
  refine Part.ask ?_
  split
  · exact (call_k hq hx s).mono fun x s' ⟨n, l, h⟩ => ⟨_, h⟩
  · exact (hx s).mono fun x s' ⟨e, ext, h1, h2, h3, h4, h5⟩ => ⟨.ex e, ext, h1, fun p hp => by rw [List.mem_singleton.1 hp]; exact h2 (x, .e e) (by simp), h3, h4, h5⟩
theorem ended_k {s0 s : PS} {l : List (Int × It)} (g : K Q s0 l s) (n : Nd) (xs : List Int) (it : Stm) (hr : ∀ nd' x, (∀ p ∈ l, RepI Q nd' p.2 p.1) → At nd' x n.k n.n n.s xs → RepI Q nd' (.s it) x) (hm : massI (.s it) ≤ massL l + (n.s.length + 60)) (hqn : Q n.s) : Part (endedM T n xs) s (fun x s' => ∃ e, K Q s0 [(x, .s e)] s') := by
  unfold endedM
  exact Part.mod (((g.want [59]).node n xs (.s it) hr hm hqn).toS)
theorem change_k (hq : QT Q T) {ex : PM Int} (hx : EK Q ex) {N : Nat} (ln : Int) : SK Q (changeM src T N ex ln) := by
  intro s
  have g := K.self (Q := Q) s
  unfold changeM
  refine Part.ask ?_
  have hn := hq.name s
  refine Part.mod ?_
  refine Part.ask ?_
  split
  · refine Part.bind (g.name.open _) ?_
    intro _ s1 g1
    refine Part.bind (hx.on g1) ?_
    rintro y s2 ⟨e, g2⟩
    refine Part.bind (g2.shut _) ?_
    intro _ s3 g3
    refine Part.mod ?_
    refine Part.bind (hx.on (g3.want [61])) ?_
    rintro z s4 ⟨e2, g4⟩
    exact ended_k g4 _ _ (.put (nameX T s) e e2) (fun nd' x h ha => by show RepS Q nd' _ x; unfold RepS; exact ⟨y, z, ha, hn, h (y, .e e) (by simp), h (z, .e e2) (by simp)⟩) (by simp [massI, massS, massL]) (by first | exact hq.1 | exact hn | exact hq.2 _)
  · refine Part.mod ?_
    refine Part.bind ((right_k hq hx).on (g.name.want [61])) ?_
    rintro z s4 ⟨r, g4⟩
    exact ended_k g4 _ _ (.set (nameX T s) r) (fun nd' x h ha => by show RepS Q nd' _ x; unfold RepS; exact ⟨z, ha, hn, h (z, .r r) (by simp)⟩) (by simp [massI, massS, massL]) (by first | exact hq.1 | exact hn | exact hq.2 _)
theorem choice_k (hq : QT Q T) {ex bl : PM Int} (hx : EK Q ex) (hb : BK Q bl) (ln : Int) : SK Q (choiceM T ex bl ln) := by
  intro s
  have g := K.self (Q := Q) s
  unfold choiceM
  refine Part.mod ?_
  refine Part.bind (hx.on g.next) ?_
  rintro x s1 ⟨e, g1⟩
  refine Part.bind (hb.on g1) ?_
  rintro y s2 ⟨b, g2⟩
  refine Part.ask ?_
  split
  · refine Part.mod ?_
    refine Part.bind (hb.on g2.next) ?_
    rintro z s3 ⟨b2, g3⟩
    exact (g3.node _ _ (.s (.ifelse e b b2)) (fun nd' i h ha => by
      show RepS Q nd' _ i
      unfold RepS
      obtain ⟨ys, h1, h2⟩ := h (y, .b b) (by simp)
      obtain ⟨zs, h3, h4⟩ := h (z, .b b2) (by simp)
      exact ⟨x, y, ys, z, zs, ha, h (x, .e e) (by simp), h1, h2, h3, h4⟩) (by simp [massI, massS, massL]; omega) (by first | exact hq.1 | exact hn | exact hq.2 _)).toS
  · exact (g2.node _ _ (.s (.ifs e b)) (fun nd' i h ha => by
      show RepS Q nd' _ i
      unfold RepS
      obtain ⟨ys, h1, h2⟩ := h (y, .b b) (by simp)
      exact ⟨x, y, ys, ha, h (x, .e e) (by simp), h1, h2⟩) (by simp [massI, massS, massL]) (by first | exact hq.1 | exact hn | exact hq.2 _)).toS
theorem statement_k (hq : QT Q T) {ex bl : PM Int} (hx : EK Q ex) (hb : BK Q bl) {N : Nat} : SK Q (statementM src T N ex bl) := by
  intro s
  have g := K.self (Q := Q) s
  unfold statementM
  refine Part.ask ?_
  refine Part.ask ?_
  split
  · exact choice_k hq hx hb _ s
  refine Part.ask ?_
  split
  · refine Part.mod ?_
    refine Part.bind (hx.on g.next) ?_
    rintro x s1 ⟨e, g1⟩
    refine Part.bind (hb.on g1) ?_
    rintro y s2 ⟨b, g2⟩
    exact (g2.node _ _ (.s (.whil e b)) (fun nd' i h ha => by
      show RepS Q nd' _ i
      unfold RepS
      obtain ⟨ys, h1, h2⟩ := h (y, .b b) (by simp)
      exact ⟨x, y, ys, ha, h (x, .e e) (by simp), h1, h2⟩) (by simp [massI, massS, massL]) (by first | exact hq.1 | exact hn | exact hq.2 _)).toS
  refine Part.ask ?_
  split
  · refine Part.bind (call_k hq hx s) ?_
    rintro x s1 ⟨n, l, g1⟩
    exact ended_k g1 _ _ (.doo n l) (fun nd' i h ha => by show RepS Q nd' _ i; unfold RepS; exact ⟨x, ha, h (x, .r (.call n l)) (by simp)⟩) (by simp [massI, massS, massL, massR]) (by first | exact hq.1 | exact hn | exact hq.2 _)
  refine Part.ask ?_
  split
  · refine Part.mod ?_
    refine Part.bind (hx.on g.next) ?_
    rintro x s1 ⟨e, g1⟩
    exact ended_k g1 _ _ (.print e) (fun nd' i h ha => by show RepS Q nd' _ i; unfold RepS; exact ⟨x, ha, h (x, .e e) (by simp)⟩) (by simp [massI, massS, massL]) (by first | exact hq.1 | exact hn | exact hq.2 _)
  refine Part.ask ?_
  split
  · refine Part.mod ?_
    refine Part.ask ?_
    split
    · exact ended_k g.next _ _ .ret0 (fun nd' i h ha => by show RepS Q nd' _ i; unfold RepS; exact ha) (by simp [massI, massS, massL]) (by first | exact hq.1 | exact hn | exact hq.2 _)
    · refine Part.bind (hx.on g.next) ?_
      rintro x s1 ⟨e, g1⟩
      exact ended_k g1 _ _ (.ret1 e) (fun nd' i h ha => by show RepS Q nd' _ i; unfold RepS; exact ⟨x, ha, h (x, .e e) (by simp)⟩) (by simp [massI, massS, massL]) (by first | exact hq.1 | exact hn | exact hq.2 _)
  refine Part.ask ?_
  split
  · refine Part.mod ?_
    refine Part.ask ?_
    have hn := hq.name (nextS T s)
    refine Part.mod ?_
    refine Part.mod ?_
    refine Part.bind ((right_k hq hx).on (g.next.name.want [61])) ?_
    rintro z s1 ⟨r, g1⟩
    exact ended_k g1 _ _ (.lt (nameX T (nextS T s)) r) (fun nd' x h ha => by show RepS Q nd' _ x; unfold RepS; exact ⟨z, ha, hn, h (z, .r r) (by simp)⟩) (by simp [massI, massS, massL]) (by first | exact hq.1 | exact hn | exact hq.2 _)
  · exact change_k hq hx _ s
def sL (ps : List (Int × Stm)) : List (Int × It) := ps.map fun p => (p.1, It.s p.2)
def toBl : List Stm → Bl
  | [] => .nil
  | s :: l => .cons s (toBl l)
theorem repB_of {nd : List Nd} : ∀ (ps : List (Int × Stm)), (∀ p ∈ sL ps, RepI Q nd p.2 p.1) → RepB Q nd (toBl (ps.map Prod.snd)) (ps.map Prod.fst)
  | [], _ => by show RepB Q nd .nil []; unfold RepB; trivial
  | p :: ps, h => by
    show RepB Q nd (.cons p.2 (toBl (ps.map Prod.snd))) (p.1 :: ps.map Prod.fst)
    unfold RepB
    exact ⟨h (p.1, .s p.2) (by simp [sL]), repB_of ps fun q hq => h q (by simp only [sL, List.map_cons, List.mem_cons]; exact .inr hq)⟩
theorem mass_sL : ∀ ps : List (Int × Stm), massL (sL ps) = massB (toBl (ps.map Prod.snd))
  | [] => by show 0 = massB .nil; unfold massB; rfl
  | p :: ps => by
    show massS p.2 + massL (sL ps) = massB (.cons p.2 (toBl (ps.map Prod.snd)))
    rw [mass_sL ps]
    conv => rhs; unfold massB
theorem stms_k {st : PM Int} (hst : SK Q st) {s0 : PS} : ∀ n (ps : List (Int × Stm)) s, K Q s0 (sL ps) s → Part (stmsR T st n (ps.map Prod.fst)) s (fun l s' => ∃ ps, l = ps.map Prod.fst ∧ K Q s0 (sL ps) s') := by
  intro n
  induction n with
  | zero => intro ps s _; exact Part.none
  | succ n ih =>
    intro ps s g
    unfold stmsR
    refine Part.ask ?_
    split
    · refine Part.bind (hst.on g) ?_
      rintro y s2 ⟨e, g2⟩
      have h1 : ps.map Prod.fst ++ [y] = (ps ++ [(y, e)]).map Prod.fst := by rw [List.map_append]; rfl
      rw [h1]
      exact ih _ s2 (by rw [show sL (ps ++ [(y, e)]) = sL ps ++ [(y, .s e)] by unfold sL; rw [List.map_append]; rfl]; exact g2)
    · exact Part.pure ⟨ps, rfl, g⟩
theorem block_k (hq : QT Q T) {st : PM Int} (hst : SK Q st) {N : Nat} : BK Q (blockM src T N st) := by
  intro s
  have g := K.self (Q := Q) s
  unfold blockM
  refine Part.ask ?_
  refine Part.bind (g.open _) ?_
  intro _ s1 g1
  refine Part.bind (stms_k hst N [] s1 g1) ?_
  rintro l s2 ⟨ps, rfl, g2⟩
  refine Part.bind (g2.shut _) ?_
  intro _ s3 g3
  exact (g3.node _ _ (.b (toBl (ps.map Prod.snd))) (fun nd' x h ha => ⟨_, ha, repB_of ps h⟩) (by rw [mass_sL]; simp [massI]) hq.1).mono fun _ _ h => ⟨_, h⟩
theorem st_k (hq : QT Q T) {N : Nat} : ∀ n, SK Q (stM src T N n) := by
  intro n
  induction n with
  | zero => intro s; exact Part.none
  | succ n ih =>
    unfold stM
    exact statement_k hq (ex_k hq N 0) (block_k hq ih)
/-- What a function stands for. -/
def FnOK (Q : List UInt8 → Prop) (f : Fnc) : Prop := Q f.s ∧ (0 ≤ f.ret ∧ f.ret ≤ 4) ∧ ∀ p ∈ f.ps, Q p.1 ∧ 0 ≤ p.2 ∧ p.2 ≤ 4
theorem typeN_in (x : List UInt8) : 0 ≤ typeN x ∧ typeN x ≤ 4 := by
  unfold typeN
  repeat' split
  all_goals decide
theorem kind_k {s0 s : PS} {l : List (Int × It)} (g : K Q s0 l s) : Part (kindM T) s (fun t s' => (0 ≤ t ∧ t ≤ 4) ∧ K Q s0 l s') := by
  unfold kindM
  refine Part.ask ?_
  split
  · refine Part.ask ?_
    refine Part.mod ?_
    exact Part.pure ⟨typeN_in _, g.next⟩
  · refine Part.mod ?_
    exact Part.pure ⟨by decide, g.of (nd_fail 20 s)⟩
theorem param_k (hq : QT Q T) {s0 s : PS} {l : List (Int × It)} (g : K Q s0 l s) : Part (paramM T) s (fun p s' => (Q p.1 ∧ 0 ≤ p.2 ∧ p.2 ≤ 4) ∧ K Q s0 l s') := by
  unfold paramM
  refine Part.ask ?_
  have hn := hq.name s
  refine Part.mod ?_
  refine Part.bind (kind_k g.name) ?_
  rintro t s1 ⟨h1, g1⟩
  exact Part.pure ⟨⟨hn, h1⟩, g1⟩
theorem params_k (hq : QT Q T) {s0 : PS} {l : List (Int × It)} : ∀ n (ps : List (List UInt8 × Int)) s, K Q s0 l s → (∀ p ∈ ps, Q p.1 ∧ 0 ≤ p.2 ∧ p.2 ≤ 4) → Part (paramsR T n ps) s (fun ps s' => (∀ p ∈ ps, Q p.1 ∧ 0 ≤ p.2 ∧ p.2 ≤ 4) ∧ K Q s0 l s') := by
  intro n
  induction n with
  | zero => intro ps s _ _; exact Part.none
  | succ n ih =>
    intro ps s g h
    unfold paramsR
    refine Part.ask ?_
    split
    · refine Part.mod ?_
      refine Part.bind (param_k hq g.next) ?_
      rintro p s1 ⟨h1, g1⟩
      exact ih _ s1 g1 (fun q hq => by rcases List.mem_append.1 hq with hq | hq; exact h q hq; rw [List.mem_singleton.1 hq]; exact h1)
    · exact Part.pure ⟨h, g⟩
theorem function_k (hq : QT Q T) {N : Nat} : ∀ s, Part (functionM src T N) s (fun f s' => FnOK Q f ∧ ∃ b, K Q s [(f.body, .b b)] s') := by
  intro s
  have g := K.self (Q := Q) s
  unfold functionM
  refine Part.ask ?_
  refine Part.mod ?_
  refine Part.ask ?_
  have hn := hq.name (wantS T [102, 110] s)
  refine Part.mod ?_
  refine Part.mod ?_
  have g1 := ((g.want (T := T) [102, 110]).name (T := T)).want (T := T) [40]
  refine Part.bind (R := fun ps s' => (∀ p ∈ ps, Q p.1 ∧ 0 ≤ p.2 ∧ p.2 ≤ 4) ∧ K Q s [] s') ?_ ?_
  · unfold paramsM
    refine Part.ask ?_
    split
    · exact Part.pure ⟨fun p hp => (by cases hp), g1⟩
    · refine Part.bind (param_k hq g1) ?_
      rintro p s1 ⟨h1, g2⟩
      exact params_k hq N [p] s1 g2 (fun q hq => by rw [List.mem_singleton.1 hq]; exact h1)
  rintro ps s1 ⟨h1, g2⟩
  refine Part.mod ?_
  refine Part.bind (R := fun t s' => (0 ≤ t ∧ t ≤ 4) ∧ K Q s [] s') ?_ ?_
  · unfold retM
    refine Part.ask ?_
    split
    · exact Part.pure ⟨by decide, g2.want [41]⟩
    · exact kind_k (g2.want [41])
  rintro t s2 ⟨h2, g3⟩
  refine Part.bind ((block_k hq (st_k hq N)).on g3) ?_
  rintro y s3 ⟨b, g4⟩
  exact Part.pure ⟨⟨hn, h2, h1⟩, b, g4⟩
def bL (ps : List (Fnc × Bl)) : List (Int × It) := ps.map fun p => (p.1.body, It.b p.2)
theorem fns_k (hq : QT Q T) {N : Nat} {s0 : PS} : ∀ n (ps : List (Fnc × Bl)) s, K Q s0 (bL ps) s → (∀ p ∈ ps, FnOK Q p.1) → Part (fnsR src T N n (ps.map Prod.fst)) s (fun l s' => ∃ ps, l = ps.map Prod.fst ∧ (∀ p ∈ ps, FnOK Q p.1) ∧ K Q s0 (bL ps) s') := by
  intro n
  induction n with
  | zero => intro ps s _ _; exact Part.none
  | succ n ih =>
    intro ps s g h
    unfold fnsR
    refine Part.ask ?_
    split
    · refine Part.bind (function_k hq s) ?_
      rintro f s1 ⟨h1, b, g1⟩
      have h2 : ps.map Prod.fst ++ [f] = (ps ++ [(f, b)]).map Prod.fst := by rw [List.map_append]; rfl
      rw [h2]
      exact ih _ s1 (by rw [show bL (ps ++ [(f, b)]) = bL ps ++ [(f.body, .b b)] by unfold bL; rw [List.map_append]; rfl]; exact g.cat g1) (fun q hq => by rcases List.mem_append.1 hq with hq | hq; exact h q hq; rw [List.mem_singleton.1 hq]; exact h1)
    · exact Part.pure ⟨ps, rfl, h, g⟩
end
/-- What a tree stands for. -/
def massF : List (Fnc × Bl) → Nat
  | [] => 0
  | p :: l => (massB p.2 + 60) + massF l
theorem mass_bL : ∀ ps : List (Fnc × Bl), massL (bL ps) = massF ps
  | [] => rfl
  | p :: ps => by show (massB p.2 + 60) + massL (bL ps) = _; rw [mass_bL ps]; rfl
structure RepT (Q : List UInt8 → Prop) (nd : List Nd) (fs : List Fnc) (ps : List (Fnc × Bl)) : Prop where
  fns : fs = ps.map Prod.fst
  ok : ∀ p ∈ ps, FnOK Q p.1
  rep : ∀ p ∈ ps, ∃ xs, At nd p.1.body 18 0 [] xs ∧ RepB Q nd p.2 xs
  mass : massF ps ≤ sumC nd
  names : ∀ n ∈ nd, Q n.s
  every : ∀ j, j < nd.length → ∃ it, RepI Q nd it (j : Int) ∧ massI it ≤ sumC nd
theorem tree_rep {Q : List UInt8 → Prop} {N : Nat} {src : List UInt8} {nd : List Nd} {fs : List Fnc} (h : allP N src = some (.inr (nd, fs))) (hq : QT Q (lexL src 0).1) : ∃ ps, RepT Q nd fs ps := by
  unfold allP at h
  split at h
  · cases h
  split at h
  · cases h
  cases hm : fnsR src (lexL src 0).1 N N [] ⟨0, 0, 0, [], 0⟩ with
  | none => rw [hm] at h; cases h
  | some r =>
    rw [hm] at h
    obtain ⟨l, s1⟩ := r
    have h1 : treeP l s1 = .inr (nd, fs) := Option.some.inj h
    unfold treeP at h1
    split at h1
    · split at h1
      · cases h1
      · injection h1 with h1
        injection h1 with h2 h3
        subst h2
        subst h3
        obtain ⟨ps, h4, h5, ext, h6, h7, h8, h9, h10⟩ := fns_k (src := src) hq N [] ⟨0, 0, 0, [], 0⟩ (K.self _) (fun p hp => by cases hp) l s1 hm
        have h6 : s1.nd = ext := h6
        rw [mass_bL] at h8
        exact ⟨ps, h4, h5, fun p hp => h7 (p.1.body, .b p.2) (List.mem_map.2 ⟨p, hp, rfl⟩), by rw [h6]; exact h8, by rw [h6]; exact h9, fun j hj => by obtain ⟨it, h11, h12⟩ := h10 j (Nat.zero_le _) hj; exact ⟨it, h11, by rw [h6]; exact h12⟩⟩
    · cases h1
end Go.Proofs.YtgelggdgbmldiaaDoor
