/-
 Layer 4: what is visible, over syntax. Written by an AI agent.
 Layer 4: the program's Visible. Written by an AI agent.
-/
import Derived.Laws.EntriesVeiled
import Derived.Test.YtbhpnioggpgbhaaGreatDoorMcbl
namespace Go.Proofs.YtbhpnioggpgbhaaGreatDoor
open Go Go.RowKit Go.Shelf
set_option linter.unusedVariables false
set_option linter.unusedSimpArgs false
def tA (L : List Tri) (i : Nat) : Int := match L[i]? with | some t => t.t | none => 0
def sA (L : List Tri) (i : Nat) : Int := match L[i]? with | some t => t.s | none => 0
/-- Whether a node is there, and what is visible: there, or behind. -/
def vsK (node : Int) (j : Nat) (V : List Vb) (r : Bool × List Vb) : Bool × List Vb := if (j : Int) = node then (true, V) else r
def vsN (r : Bool × List Vb) (f : List Vb → Bool × List Vb) : Bool × List Vb := match r with
 | (true, V) => (true, V)
 | (false, V) => f V
mutual
def vsS (L : List Tri) (node : Int) : Stm → Nat → List Vb → Bool × List Vb
 | .lt x r, b, V => vsK node (b + (kR r + 1)) V (false, V ++ [⟨x, tA L (b + kR r), sA L (b + (kR r + 1))⟩])
 | .ifs c a, b, V => vsK node (b + (kE c + 1 + (kB a + 1))) V (lookR V.length (vsL L node a (b + kE c + 1) V))
 | .ifelse c a d, b, V => vsK node (b + (kE c + 1 + (kB a + 1) + (kB d + 1))) V (vsN (lookR V.length (vsL L node a (b + kE c + 1) V)) fun V1 => lookR V1.length (vsL L node d (b + kE c + 1 + kB a + 1) V1))
 | .whil c a, b, V => vsK node (b + (kE c + 1 + (kB a + 1))) V (lookR V.length (vsL L node a (b + kE c + 1) V))
 | .set x r, b, V => vsK node (b + (kR r + 1)) V (false, V)
 | .put x a c, b, V => vsK node (b + (kE a + 1 + (kE c + 1))) V (false, V)
 | .doo x l, b, V => vsK node (b + (kEs l + 1)) V (false, V)
 | .print a, b, V => vsK node (b + (kE a + 1)) V (false, V)
 | .ret0, b, V => vsK node (b + 0) V (false, V)
 | .ret1 a, b, V => vsK node (b + (kE a + 1)) V (false, V)
def vsL (L : List Tri) (node : Int) : Bl → Nat → List Vb → Bool × List Vb
 | .nil, b, V => (false, V)
 | .cons s l, b, V => vsN (vsS L node s b V) fun V1 => vsL L node l (b + kS s + 1) V1
end
/-- How many variables there may be. -/
def Gr (n k : Nat) (r : Bool × List Vb) : Prop := n ≤ r.2.length ∧ r.2.length ≤ n + k
theorem Gr.look {V : List Vb} {k : Nat} {r : Bool × List Vb} (h : Gr V.length k r) : Gr V.length k (lookR V.length r) ∧ ((lookR V.length r).1 = false → (lookR V.length r).2.length = V.length) := by
 obtain ⟨b, V'⟩ := r
 obtain ⟨h1, h2⟩ := h
 cases b with
 | true => exact ⟨⟨h1, h2⟩, fun h => by cases h⟩
 | false =>
  have e : (V'.take V.length).length = V.length := by rw [List.length_take]; exact Nat.min_eq_left h1
  exact ⟨⟨by show V.length ≤ (V'.take V.length).length; omega, by show (V'.take V.length).length ≤ _; omega⟩, fun _ => e⟩
theorem Gr.key {node : Int} {j : Nat} {V : List Vb} {k : Nat} {r : Bool × List Vb} (h : Gr V.length k r) : Gr V.length k (vsK node j V r) := by
 unfold vsK
 split
 ·exact ⟨Nat.le_refl _, Nat.le_add_right _ _⟩
 ·exact h
theorem Gr.next {n k m : Nat} {r : Bool × List Vb} {f : List Vb → Bool × List Vb} (h : Gr n k r) (g : ∀ V, r = (false, V) → Gr V.length m (f V)) : Gr n (k + m) (vsN r f) := by
 obtain ⟨b, V⟩ := r
 obtain ⟨h1, h2⟩ := h
 have h1 : n ≤ V.length := h1
 have h2 : V.length ≤ n + k := h2
 cases b with
 | true => exact ⟨h1, by show V.length ≤ _; omega⟩
 | false =>
  obtain ⟨g1, g2⟩ := g V rfl
  exact ⟨by show n ≤ (f V).2.length; omega, by show (f V).2.length ≤ _; omega⟩
theorem Gr.wide {n k m : Nat} {r : Bool × List Vb} (h : Gr n k r) (hk : k ≤ m) : Gr n m r := ⟨h.1, by have := h.2; omega⟩
theorem Gr.same (V : List Vb) (k : Nat) : Gr V.length k (false, V) := ⟨Nat.le_refl _, Nat.le_add_right _ _⟩
mutual
theorem gr_S (L : List Tri) (node : Int) : ∀ (s : Stm) (b : Nat) (V : List Vb), Gr V.length (kS s + 1) (vsS L node s b V)
 | .lt x r, b, V => by
  unfold vsS kS
  exact Gr.key ⟨by show V.length ≤ (V ++ [_]).length; rw [List.length_append]; omega, by show (V ++ [_]).length ≤ _; rw [List.length_append]; show V.length + 1 ≤ _; omega⟩
 | .ifs c a, b, V => by unfold vsS kS; exact ((gr_L L node a _ V).look.1.wide (by omega)).key
 | .ifelse c a d, b, V => by
  unfold vsS kS
  exact (((gr_L L node a _ V).look.1.next fun V1 _ => (gr_L L node d _ V1).look.1).wide (by omega)).key
 | .whil c a, b, V => by unfold vsS kS; exact ((gr_L L node a _ V).look.1.wide (by omega)).key
 | .set x r, b, V => by unfold vsS kS; exact (Gr.same V _).key
 | .put x a c, b, V => by unfold vsS kS; exact (Gr.same V _).key
 | .doo x l, b, V => by unfold vsS kS; exact (Gr.same V _).key
 | .print a, b, V => by unfold vsS kS; exact (Gr.same V _).key
 | .ret0, b, V => by unfold vsS kS; exact (Gr.same V _).key
 | .ret1 a, b, V => by unfold vsS kS; exact (Gr.same V _).key
theorem gr_L (L : List Tri) (node : Int) : ∀ (l : Bl) (b : Nat) (V : List Vb), Gr V.length (kB l) (vsL L node l b V)
 | .nil, b, V => by unfold vsL kB; exact Gr.same V 0
 | .cons s l, b, V => by
  unfold vsL kB
  exact (gr_S L node s b V).next fun V1 _ => gr_L L node l _ V1
end
section
variable {nd : List Nd} {fs : List Fnc} {L : List Tri} {A A' T S F Z : Option Addr} {c c' cT cS cF cZ kz : Nat} {w0 : World} {node : Int} {Bv Bp Bn Bk : Nat}
theorem st_key {C : Int → List Vb → Bool × List Vb → Prop} {j : Nat} {V : List Vb} {r : Bool × List Vb} (h : ((j : Int) ≠ node) → StC C nd L node (j : Int) V r) : StC C nd L node (j : Int) V (vsK node j V r) := by
 unfold vsK
 by_cases e : (j : Int) = node
 ·rw [if_pos e]
  exact .inl ⟨e, rfl⟩
 ·rw [if_neg e]
  exact h e
theorem st_other {C : Int → List Vb → Bool × List Vb → Prop} {j : Nat} {V : List Vb} {k n : Int} {s : List UInt8} {l : List Int} (hat : At nd (j : Int) k n s l) (h1 : k ≠ 10) (h2 : k ≠ 15) (h3 : k ≠ 16) (hl : l.length ≤ 1000) (hn : (j : Int) ≠ node) : StC C nd L node (j : Int) V (false, V) :=
 .inr ⟨hn, j, k, n, s, l, rfl, hat, hl, .inr (.inr ⟨h1, h2, h3, rfl⟩)⟩
theorem in_one {C : Int → List Vb → Bool × List Vb → Prop} {x : Int} {V : List Vb} {r : Bool × List Vb} (h : C x V r) (h9 : r.2.length ≤ 900) : InI C [x] V r := by
 obtain ⟨b, V1⟩ := r
 cases b with
 | true => exact .found x [] V V1 h
 | false => exact .next x [] V V1 _ h h9 (.nil V1)
theorem in_next {C : Int → List Vb → Bool × List Vb → Prop} {x : Int} {l : List Int} {V : List Vb} {r : Bool × List Vb} {f : List Vb → Bool × List Vb} (h : C x V r) (h9 : r.2.length ≤ 900) (g : ∀ V1, r = (false, V1) → InI C l V1 (f V1)) : InI C (x :: l) V (vsN r f) := by
 obtain ⟨b, V1⟩ := r
 cases b with
 | true => exact .found x l V V1 h
 | false => exact .next x l V V1 _ h h9 (g V1 rfl)
mutual
theorem st_S (PB : PrB w0 nd fs L A A' T S F Z c c' cT cS cF cZ kz) (hM6 : nd.length ≤ 300) (hL : L.length = nd.length) : ∀ (s : Stm) (b : Nat) (V : List Vb), FlAt nd b (flS s b) → V.length + kS s + 1 ≤ 800 → StC (LkC nd fs L A A' T S F Z c c' cT cS cF cZ kz w0 node Bv Bp Bn Bk) nd L node ((b + kS s : Nat) : Int) V (vsS L node s b V)
 | .lt x r, b, V, g, h9 => by
  unfold flS at g
  unfold vsS kS
  refine st_key fun hn => ?_
  have hat : At nd ((b + (kR r + 1) : Nat) : Int) 10 0 x [((b + kR r : Nat) : Int)] := (g.right (c := b + (kR r + 1)) (by rw [flR_len])).at
  obtain ⟨j, ln, e, hj⟩ := hat
  have hjl := (List.getElem?_eq_some_iff.1 hj).1
  have e : j = b + (kR r + 1) := by omega
  subst e
  have h1 : L[b + kR r]? = some (L[b + kR r]'(by omega)) := List.getElem?_eq_getElem _
  have h2 : L[b + (kR r + 1)]? = some (L[b + (kR r + 1)]'(by omega)) := List.getElem?_eq_getElem _
  refine .inr ⟨hn, _, 10, 0, x, _, rfl, ⟨_, ln, rfl, hj⟩, by simp, .inl ⟨rfl, b + kR r, _, _, rfl, h1, h2, ?_⟩⟩
  unfold tA sA
  rw [h1, h2]
 | .ifs c' a, b, V, g, h9 => by
  unfold flS at g
  unfold kS at h9
  unfold vsS kS
  refine st_key fun hn => ?_
  have hat : At nd ((b + (kE c' + 1 + (kB a + 1)) : Nat) : Int) 15 0 [] [((b + kE c' : Nat) : Int), ((b + kE c' + 1 + kB a : Nat) : Int)] := (g.right (c := b + (kE c' + 1 + (kB a + 1))) (by rw [List.length_append, List.length_append, flE_len, flB_len]; rfl)).at
  have hk := lk_B PB hM6 hL a (b + kE c' + 1) V (g.left.right (by rw [flE_len]; omega)) (by omega)
  exact .inr ⟨hn, _, 15, 0, [], _, rfl, hat, by simp, .inr (.inl ⟨.inl rfl, by simp, in_one hk (by have := (gr_L L node a (b + kE c' + 1) V).look.1.2; omega)⟩)⟩
 | .ifelse c' a d, b, V, g, h9 => by
  unfold flS at g
  unfold kS at h9
  unfold vsS kS
  refine st_key fun hn => ?_
  have hat : At nd ((b + (kE c' + 1 + (kB a + 1) + (kB d + 1)) : Nat) : Int) 15 0 [] [((b + kE c' : Nat) : Int), ((b + kE c' + 1 + kB a : Nat) : Int), ((b + kE c' + 1 + kB a + 1 + kB d : Nat) : Int)] := (g.right (c := b + (kE c' + 1 + (kB a + 1) + (kB d + 1))) (by rw [List.length_append, List.length_append, List.length_append, List.length_append, flE_len, flB_len, flB_len]; rfl)).at
  have hk := lk_B PB hM6 hL a (b + kE c' + 1) V (g.left.left.right (by rw [flE_len]; omega)) (by omega)
  have gr := (gr_L L node a (b + kE c' + 1) V).look
  refine .inr ⟨hn, _, 15, 0, [], _, rfl, hat, by simp, .inr (.inl ⟨.inl rfl, by simp, in_next hk (by have := gr.1.2; omega) fun V1 e => ?_⟩)⟩
  have hV1 : V1.length = V.length := by have h := gr.2 (by rw [e]); rw [e] at h; exact h
  have hk2 := lk_B PB hM6 hL d (b + kE c' + 1 + kB a + 1) V1 (g.left.right (by rw [List.length_append, flE_len, List.length_append, flB_len]; show _ = b + (kE c' + 1 + (kB a + 1)); omega)) (by omega)
  exact in_one hk2 (by have := (gr_L L node d (b + kE c' + 1 + kB a + 1) V1).look.1.2; omega)
 | .whil c' a, b, V, g, h9 => by
  unfold flS at g
  unfold kS at h9
  unfold vsS kS
  refine st_key fun hn => ?_
  have hat : At nd ((b + (kE c' + 1 + (kB a + 1)) : Nat) : Int) 16 0 [] [((b + kE c' : Nat) : Int), ((b + kE c' + 1 + kB a : Nat) : Int)] := (g.right (c := b + (kE c' + 1 + (kB a + 1))) (by rw [List.length_append, List.length_append, flE_len, flB_len]; rfl)).at
  have hk := lk_B PB hM6 hL a (b + kE c' + 1) V (g.left.right (by rw [flE_len]; omega)) (by omega)
  exact .inr ⟨hn, _, 16, 0, [], _, rfl, hat, by simp, .inr (.inl ⟨.inr rfl, by simp, in_one hk (by have := (gr_L L node a (b + kE c' + 1) V).look.1.2; omega)⟩)⟩
 | .set x r, b, V, g, h9 => by
  unfold flS at g
  unfold vsS kS
  exact st_key (st_other (k := 11) (g.right (c := b + (kR r + 1)) (by rw [flR_len])).at (by decide) (by decide) (by decide) (by simp))
 | .put x a d, b, V, g, h9 => by
  unfold flS at g
  unfold vsS kS
  exact st_key (st_other (k := 12) (g.right (c := b + (kE a + 1 + (kE d + 1))) (by rw [List.length_append, flE_len, flE_len])).at (by decide) (by decide) (by decide) (by simp))
 | .doo x l, b, V, g, h9 => by
  unfold flS at g
  unfold vsS kS
  exact st_key (st_other (k := 13) (g.right (c := b + (kEs l + 1)) (by rw [flR_len]; rfl)).at (by decide) (by decide) (by decide) (by simp))
 | .print a, b, V, g, h9 => by
  unfold flS at g
  unfold vsS kS
  exact st_key (st_other (k := 14) (g.right (c := b + (kE a + 1)) (by rw [flE_len])).at (by decide) (by decide) (by decide) (by simp))
 | .ret0, b, V, g, h9 => by
  unfold flS at g
  unfold vsS kS
  exact st_key (st_other (k := 17) (j := b + 0) (by have h : At nd ((b : Nat) : Int) 17 0 [] [] := g.at; exact h) (by decide) (by decide) (by decide) (by simp))
 | .ret1 a, b, V, g, h9 => by
  unfold flS at g
  unfold vsS kS
  exact st_key (st_other (k := 17) (g.right (c := b + (kE a + 1)) (by rw [flE_len])).at (by decide) (by decide) (by decide) (by simp))
theorem in_L (PB : PrB w0 nd fs L A A' T S F Z c c' cT cS cF cZ kz) (hM6 : nd.length ≤ 300) (hL : L.length = nd.length) : ∀ (l : Bl) (b : Nat) (V : List Vb), FlAt nd b (flB l b) → V.length + kB l ≤ 800 → InI (StC (LkC nd fs L A A' T S F Z c c' cT cS cF cZ kz w0 node Bv Bp Bn Bk) nd L node) (rootB l b) V (vsL L node l b V)
 | .nil, b, V, g, h9 => by unfold rootB vsL; exact .nil V
 | .cons s l, b, V, g, h9 => by
  unfold flB at g
  unfold kB at h9
  unfold rootB vsL
  have gr := gr_S L node s b V
  refine in_next (st_S PB hM6 hL s b V g.left (by omega)) (by have := gr.2; omega) fun V1 e => ?_
  have h1 : V1.length ≤ V.length + (kS s + 1) := by have h := gr.2; rw [e] at h; exact h
  exact in_L PB hM6 hL l (b + kS s + 1) V1 (g.right (by rw [flS_len]; omega)) (by omega)
theorem lk_B (PB : PrB w0 nd fs L A A' T S F Z c c' cT cS cF cZ kz) (hM6 : nd.length ≤ 300) (hL : L.length = nd.length) (a : Bl) (b : Nat) (V : List Vb) (g : FlAt nd b (flK a b)) (h9 : V.length + kB a ≤ 800) : LkC nd fs L A A' T S F Z c c' cT cS cF cZ kz w0 node Bv Bp Bn Bk ((b + kB a : Nat) : Int) V (lookR V.length (vsL L node a b V)) := by
 have hat : At nd ((b + kB a : Nat) : Int) 18 0 [] (rootB a b) := (g.right (c := b + kB a) (by rw [flB_len])).at
 have hll : ∀ (a : Bl) (b : Nat), (rootB a b).length ≤ kB a := by
  intro a
  induction a using Bl.rec (motive_1 := fun _ => True) with
  | nil => intro b; unfold rootB; exact Nat.zero_le _
  | cons st l _ ih => intro b; unfold rootB kB; show (rootB l _).length + 1 ≤ _; have := ih (b + kS st + 1); omega
  | _ => trivial
 exact plook nd fs L A A' T S F Z c c' cT cS cF cZ kz w0 node Bv Bp Bn Bk PB (b + kB a) 18 0 [] (rootB a b) hat (by have := hll a b; omega) (by omega) hL V (by omega) _ (in_L PB hM6 hL a b V g.left h9) (fun _ => (gr_L L node a b V).1)
end
end
end Go.Proofs.YtbhpnioggpgbhaaGreatDoor

namespace Go.Proofs.YtbhpnioggpgbhaaGreatDoor
open Go Go.RowKit Go.Shelf
set_option linter.unusedVariables false
set_option linter.unusedSimpArgs false
/-- Params, as variables. -/
def parV : List (List UInt8 × Int) → Nat → List Vb
 | [], _ => []
 | p :: l, i => ⟨p.1, p.2, (i : Int)⟩ :: parV l (i + 1)
theorem parV_len : ∀ (l : List (List UInt8 × Int)) (i : Nat), (parV l i).length = l.length
 | [], _ => rfl
 | p :: l, i => by show (parV l (i + 1)).length + 1 = l.length + 1; rw [parV_len l]
theorem parV_at : ∀ (l : List (List UInt8 × Int)) (i j : Nat) (p : List UInt8 × Int), l[j]? = some p → (parV l i)[j]? = some ⟨p.1, p.2, ((i + j : Nat) : Int)⟩
 | [], _, j, p, h => by simp at h
 | q :: l, i, 0, p, h => by cases h; rfl
 | q :: l, i, j + 1, p, h => by
  show (parV l (i + 1))[j]? = _
  rw [parV_at l (i + 1) j p h, show i + 1 + j = i + (j + 1) by omega]
theorem parV_take (l : List (List UInt8 × Int)) (i : Nat) (p : List UInt8 × Int) (h : l[i]? = some p) : (parV l 0).take (i + 1) = (parV l 0).take i ++ [⟨p.1, p.2, (i : Int)⟩] := by
 have h1 := parV_at l 0 i p h
 rw [Nat.zero_add] at h1
 rw [List.take_add_one, h1]
 rfl
def visR (r : Bool × List Vb) : List Vb := if r.1 then r.2 else []
set_option maxRecDepth 100000 in
set_option maxHeartbeats 16000000 in
theorem pvis_any (nd : List Nd) (fs : List Fnc) (L : List Tri) (A A' T S F Z : Option Addr) (c c' cT cS cF cZ kz : Nat) (w : World) (PB : PrB w nd fs L A A' T S F Z c c' cT cS cF cZ kz) (hM6 : nd.length ≤ 300) (hL6 : L.length = nd.length) (hK6 : fs.length ≤ 6) (jn : Nat) (node : Int) (hjn : node = (jn : Int)) (hnl : jn < L.length) (tn : Tri) (htn : L[jn]? = some tn) (f : Nat) (G : Fnc) (hf : tn.f = (f : Int)) (hG : fs[f]? = some G) (hp6 : G.ps.length ≤ 3) (a : Bl) (b : Nat) (hbody : G.body = ((b + kB a : Nat) : Int)) (hfl : FlAt nd b (flK a b)) (hkB : kB a ≤ 300) :
  Calls Tryz.prog 18 #[.agg #[.slice A nd.length c, .slice A' fs.length c', .slice T L.length cT, .slice S L.length cS, .slice F L.length cF, .slice Z kz cZ], .int .i64 node] w fun e w' => ∃ Av cv, e = .returned (.slice Av (visR (lookR G.ps.length (vsL L node a b (parV G.ps 0)))).length cv) ∧ RdG w' Av (flatV (visR (lookR G.ps.length (vsL L node a b (parV G.ps 0))))) ∧ Keeps (fun _ => False) w w' := by
 obtain ⟨i0, hi0v, hz0v, hz1v, hz2v⟩ := info_parts info_var
 have HI0 := Lib.hid (And.intro hi0v (And.intro hz0v (And.intro hz1v hz2v)))
 clear hi0v hz0v hz1v hz2v
 obtain ⟨M, hM⟩ : ∃ t, t = nd.length := ⟨_, rfl⟩
 obtain ⟨K, hK⟩ : ∃ t, t = fs.length := ⟨_, rfl⟩
 have HPB := Lib.hid PB
 obtain ⟨fb, fo, hA', hc⟩ := PB.tree.fnAt (by have := (List.getElem?_eq_some_iff.1 hG).1; omega)
 obtain ⟨hfk, hGe⟩ := List.getElem?_eq_some_iff.1 hG
 obtain ⟨ga, gc, d0, d1, d2, d3, d4, d5⟩ := hc f hfk
 rw [hGe] at d0 d1 d2 d3 d4 d5
 obtain ⟨xb, xo, hF, hFc⟩ := PB.rF.get (k := jn) (by rw [List.length_map]; exact hnl) (x := tn.f) (by rw [List.getElem?_map, htn]; rfl)
 rw [hf] at hFc
 have HG := Lib.hid (And.intro hG (And.intro hp6 (And.intro hbody (And.intro hfl hkB))))
 have HD5 := Lib.hid d5
 have HM := Lib.hid hM
 have HK := Lib.hid hK
 have HL6 := Lib.hid hL6
 have HM6 := Lib.hid hM6
 have HJN := Lib.hid hjn
 have HA' := Lib.hid hA'
 have HF := Lib.hid hF
 obtain ⟨SG, hSG⟩ : ∃ t, t = ofL G.s := ⟨_, rfl⟩
 obtain ⟨gl, hgl⟩ : ∃ t, t = G.ln := ⟨_, rfl⟩
 obtain ⟨m, hm⟩ : ∃ t, t = G.ps.length := ⟨_, rfl⟩
 obtain ⟨gr, hgr⟩ : ∃ t, t = G.ret := ⟨_, rfl⟩
 obtain ⟨bd, hbd⟩ : ∃ t, t = G.body := ⟨_, rfl⟩
 rw [← hSG] at d0
 rw [← hgl] at d1
 rw [← hm] at d2
 rw [← hgr] at d3
 rw [← hbd] at d4
 have HMG := Lib.hid hm
 have HBD := Lib.hid hbd
 have hm3 : m ≤ 3 := by omega
 have hfI : (f : Int) < (K : Int) := by omega
 have hf0 : (0 : Int) ≤ (f : Int) := by omega
 have hjI : (jn : Int) < (M : Int) := by omega
 have hj0 : (0 : Int) ≤ (jn : Int) := by omega
 have hj1 : ¬ (jn : Int) < 0 := by omega
 have hjd : decide ((jn : Int) < 0) = false := decide_eq_false hj1
 have hjg : decide ((jn : Int) ≥ (M : Int)) = false := decide_eq_false (by omega)
 have hjg2 : decide ((M : Int) ≤ (jn : Int)) = false := decide_eq_false (by omega)
 rw [hjn, hL6, ← hM, ← hK, hA', hF]
 clear PB hM hK hjn hA' hF hG hp6 hbody hfl hkB hSG hgl hm hgr hbd d5 hc hfk hGe hnl htn hf hL6 hM6 hK6
 go_enter Tryz.func18, Tryz.ntmps18
 go_upto_region 1 with fail
 obtain ⟨P2, hP2⟩ : ∃ X, X = w.heap.size := ⟨_, rfl⟩
 obtain ⟨w1, hw1⟩ : ∃ w1, w1 = w.alloc (.cells #[.slice A M c, .slice (some ⟨fb, fo, none⟩) K c', .slice T M cT, .slice S M cS, .slice (some ⟨xb, xo, none⟩) M cF, .slice Z kz cZ] 30) := ⟨_, rfl⟩
 have ka := Keeps.one w (.cells #[.slice A M c, .slice (some ⟨fb, fo, none⟩) K c', .slice T M cT, .slice S M cS, .slice (some ⟨xb, xo, none⟩) M cF, .slice Z kz cZ] 30)
 have L2 : Loc w1 (fun b => b < w.heap.size) P2 [.slice A M c, .slice (some ⟨fb, fo, none⟩) K c', .slice T M cT, .slice S M cS, .slice (some ⟨xb, xo, none⟩) M cF, .slice Z kz cZ] := by rw [hw1, hP2]; exact Loc.new (R := fun b => b < w.heap.size) (Nat.lt_irrefl _) [.slice A M c, .slice (some ⟨fb, fo, none⟩) K c', .slice T M cT, .slice S M cS, .slice (some ⟨xb, xo, none⟩) M cF, .slice Z kz cZ] 30
 have e1 : w1.heap.size = P2 + 1 := by rw [hw1, hP2]; simp
 rw [← hP2]
 rw [← hw1] at ka ⊢
 obtain ⟨P3, hP3⟩ : ∃ X, X = P2 + 1 := ⟨_, rfl⟩
 obtain ⟨w2, hw2⟩ : ∃ w2, w2 = w1.alloc (.cells #[.int .i64 jn] 3) := ⟨_, rfl⟩
 have kb := Keeps.one w1 (.cells #[.int .i64 jn] 3)
 have L3 : Loc w2 (fun b => b < w.heap.size) P3 [.int .i64 jn] := by rw [hw2, hP3, ← e1]; exact Loc.new (R := fun b => b < w.heap.size) (by show ¬ w1.heap.size < w.heap.size; omega) [.int .i64 jn] 3
 rw [← hP3]
 rw [← hw2] at kb ⊢
 have K2 := Lib.hid (ka.trans kb (fun _ _ h => h))
 have HL2 := Lib.hid (L2.keeps kb)
 have HL3 := Lib.hid L3
 have HP2 := Lib.hid (show w.heap.size ≤ P2 by omega)
 have HP3 := Lib.hid (show w.heap.size ≤ P3 by omega)
 have y1 := HL2.out.cells 1 _ rfl
 have y4 := HL2.out.cells 4 _ rfl
 have x0 := HL3.out.cells 0 _ rfl
 replace hFc := (K2.out.cell (cell_ltk hFc) (fun h => h)).trans hFc
 replace d0 := (K2.out.cell (cell_ltk d0) (fun h => h)).trans d0
 replace d1 := (K2.out.cell (cell_ltk d1) (fun h => h)).trans d1
 replace d2 := (K2.out.cell (cell_ltk d2) (fun h => h)).trans d2
 replace d3 := (K2.out.cell (cell_ltk d3) (fun h => h)).trans d3
 replace d4 := (K2.out.cell (cell_ltk d4) (fun h => h)).trans d4
 clear ka kb hw1 hw2 L2 L3 hP2 hP3 e1
 have SK : Hid (∀ w', Keeps (fun _ => False) w2 w' → w'.cell? ⟨P2, 1, none⟩ = some (.slice (some ⟨fb, fo, none⟩) K c') ∧ w'.cell? ⟨P2, 4, none⟩ = some (.slice (some ⟨xb, xo, none⟩) M cF) ∧ w'.cell? ⟨P3, 0, none⟩ = some (.int .i64 jn) ∧ w'.cell? ⟨xb, xo + jn, none⟩ = some (.int .i64 f) ∧ w'.cell? ⟨fb, fo + f * 5, none⟩ = some (.string SG) ∧ w'.cell? ⟨fb, fo + f * 5 + 1, none⟩ = some (.int .i64 gl) ∧ w'.cell? ⟨fb, fo + f * 5 + 2, none⟩ = some (.slice ga m gc) ∧ w'.cell? ⟨fb, fo + f * 5 + 3, none⟩ = some (.int .i64 gr) ∧ w'.cell? ⟨fb, fo + f * 5 + 4, none⟩ = some (.int .i64 bd)) := Lib.hid (fun w' k => ⟨(k.cell (cell_ltk y1) (fun h => h)).trans y1, (k.cell (cell_ltk y4) (fun h => h)).trans y4, (k.cell (cell_ltk x0) (fun h => h)).trans x0, (k.cell (cell_ltk hFc) (fun h => h)).trans hFc, (k.cell (cell_ltk d0) (fun h => h)).trans d0, (k.cell (cell_ltk d1) (fun h => h)).trans d1, (k.cell (cell_ltk d2) (fun h => h)).trans d2, (k.cell (cell_ltk d3) (fun h => h)).trans d3, (k.cell (cell_ltk d4) (fun h => h)).trans d4⟩)
 go_upto_region 3 with fail
 clear y1 y4 x0 hFc d0 d1 d2 d3 d4
 refine wp_region_held_drew (S := fun w' => Keeps (fun _ => False) w2 w') rfl ((Keeps.refl _ w2).drew) (fun hSw => ?_)
 refine wpAnyH_take (i := 0) (v := ?_) rfl (by kernel_rfl) (by kernel_rfl) (by kernel_rfl) (fun _ _ _ h => h) (Or.inl ⟨by rfl, ?_⟩) (by assumption) ?_
 rotate_left
 ·(intro w' hSw'; obtain ⟨e1, e2, e3, e4, e5, e6, e7, e8, e9⟩ := SK.out w' hSw'; go_simp; (try (with_reducible rfl)))
 simp only [Act.put, List.getElem_toArray, List.getElem_cons_succ, List.getElem_cons_zero, List.setIfInBounds_toArray, List.set_cons_succ, List.set_cons_zero]
 refine wpAnyH_take (i := 1) (v := ?_) rfl (by kernel_rfl) (by kernel_rfl) (by kernel_rfl) (fun _ _ _ h => h) (Or.inl ⟨by rfl, ?_⟩) (by assumption) ?_
 rotate_left
 ·(intro w' hSw'; obtain ⟨e1, e2, e3, e4, e5, e6, e7, e8, e9⟩ := SK.out w' hSw'; go_simp; (try (with_reducible rfl)))
 simp only [Act.put, List.getElem_toArray, List.getElem_cons_succ, List.getElem_cons_zero, List.setIfInBounds_toArray, List.set_cons_succ, List.set_cons_zero]
 refine wpAnyH_take (i := 2) (v := ?_) rfl (by kernel_rfl) (by kernel_rfl) (by kernel_rfl) (fun _ _ _ h => h) (Or.inl ⟨by rfl, ?_⟩) (by assumption) ?_
 rotate_left
 ·(intro w' hSw'; obtain ⟨e1, e2, e3, e4, e5, e6, e7, e8, e9⟩ := SK.out w' hSw'; go_simp; (try (with_reducible rfl)))
 simp only [Act.put, List.getElem_toArray, List.getElem_cons_succ, List.getElem_cons_zero, List.setIfInBounds_toArray, List.set_cons_succ, List.set_cons_zero]
 refine wpAnyH_take (i := 3) (v := ?_) rfl (by kernel_rfl) (by kernel_rfl) (by kernel_rfl) (fun _ _ _ h => h) (Or.inl ⟨by rfl, ?_⟩) (by assumption) ?_
 rotate_left
 ·(intro w' hSw'; obtain ⟨e1, e2, e3, e4, e5, e6, e7, e8, e9⟩ := SK.out w' hSw'; go_simp; (try (with_reducible rfl)))
 simp only [Act.put, List.getElem_toArray, List.getElem_cons_succ, List.getElem_cons_zero, List.setIfInBounds_toArray, List.set_cons_succ, List.set_cons_zero]
 refine wpAnyH_take (i := 4) (v := ?_) rfl (by kernel_rfl) (by kernel_rfl) (by kernel_rfl) (fun _ _ _ h => h) (Or.inl ⟨by rfl, ?_⟩) (by assumption) ?_
 rotate_left
 ·(intro w' hSw'; obtain ⟨e1, e2, e3, e4, e5, e6, e7, e8, e9⟩ := SK.out w' hSw'; go_simp; (try (with_reducible rfl)))
 simp only [Act.put, List.getElem_toArray, List.getElem_cons_succ, List.getElem_cons_zero, List.setIfInBounds_toArray, List.set_cons_succ, List.set_cons_zero]
 refine wpAnyH_take (i := 5) (v := ?_) rfl (by kernel_rfl) (by kernel_rfl) (by kernel_rfl) (fun _ _ _ h => h) (Or.inl ⟨by rfl, ?_⟩) (by assumption) ?_
 rotate_left
 ·(intro w' hSw'; obtain ⟨e1, e2, e3, e4, e5, e6, e7, e8, e9⟩ := SK.out w' hSw'; go_simp; (try (with_reducible rfl)))
 simp only [Act.put, List.getElem_toArray, List.getElem_cons_succ, List.getElem_cons_zero, List.setIfInBounds_toArray, List.set_cons_succ, List.set_cons_zero]
 refine wpAnyH_take (i := 6) (v := ?_) rfl (by kernel_rfl) (by kernel_rfl) (by kernel_rfl) (fun _ _ _ h => h) (Or.inl ⟨by rfl, ?_⟩) (by assumption) ?_
 rotate_left
 ·(intro w' hSw'; obtain ⟨e1, e2, e3, e4, e5, e6, e7, e8, e9⟩ := SK.out w' hSw'; go_simp; (try (with_reducible rfl)))
 simp only [Act.put, List.getElem_toArray, List.getElem_cons_succ, List.getElem_cons_zero, List.setIfInBounds_toArray, List.set_cons_succ, List.set_cons_zero]
 refine wpAnyH_take (i := 7) (v := ?_) rfl (by kernel_rfl) (by kernel_rfl) (by kernel_rfl) (fun _ _ _ h => h) (Or.inl ⟨by rfl, ?_⟩) (by assumption) ?_
 rotate_left
 ·(intro w' hSw'; obtain ⟨e1, e2, e3, e4, e5, e6, e7, e8, e9⟩ := SK.out w' hSw'; go_simp; (try (with_reducible rfl)))
 simp only [Act.put, List.getElem_toArray, List.getElem_cons_succ, List.getElem_cons_zero, List.setIfInBounds_toArray, List.set_cons_succ, List.set_cons_zero]
 refine wpAnyH_take (i := 8) (v := ?_) rfl (by kernel_rfl) (by kernel_rfl) (by kernel_rfl) (fun _ _ _ h => h) (Or.inl ⟨by rfl, ?_⟩) (by assumption) ?_
 rotate_left
 ·(intro w' hSw'; obtain ⟨e1, e2, e3, e4, e5, e6, e7, e8, e9⟩ := SK.out w' hSw'; go_simp; (try (with_reducible rfl)))
 simp only [Act.put, List.getElem_toArray, List.getElem_cons_succ, List.getElem_cons_zero, List.setIfInBounds_toArray, List.set_cons_succ, List.set_cons_zero]
 refine wpAnyH_take (i := 9) (v := ?_) rfl (by kernel_rfl) (by kernel_rfl) (by kernel_rfl) (fun _ _ _ h => h) (Or.inl ⟨by rfl, ?_⟩) (by assumption) ?_
 rotate_left
 ·(intro w' hSw'; obtain ⟨e1, e2, e3, e4, e5, e6, e7, e8, e9⟩ := SK.out w' hSw'; go_simp; (try (with_reducible rfl)))
 simp only [Act.put, List.getElem_toArray, List.getElem_cons_succ, List.getElem_cons_zero, List.setIfInBounds_toArray, List.set_cons_succ, List.set_cons_zero]
 refine wpAnyH_ready (rs := [10]) (by kernel_rfl) (by simp) ?_
 refine AllReadyH.cons rfl (fun K' hK => ?_) AllReadyH.nil
 go_simp
 refine hK.out _ _ (((Keeps.refl (fun _ => False) w2).alloc _).drew) (fun hHeld => ?_)
 clear hK K'
 obtain ⟨P5, hP5⟩ : ∃ X, X = w2.heap.size := ⟨_, rfl⟩
 have hB2 : w.heap.size ≤ w2.heap.size := K2.out.size
 rw [← hP5]
 refine wpAnyH_ready (rs := [11]) (by kernel_rfl) (by simp) ?_
 refine AllReadyH.cons rfl (fun K' hK => ?_) AllReadyH.nil
 rw [hP5]
 go_simp
 refine hK.out _ _ (((Keeps.refl (fun _ => False) w2).alloc _).drew) (fun hHeld2 => ?_)
 clear hK K' hHeld2
 refine wpAnyH_done (by kernel_rfl) ?_ _
 obtain ⟨w5, hw5⟩ : ∃ w5, w5 = (w2.alloc (.cells #[.string SG, .int .i64 gl, .slice ga m gc, .int .i64 gr, .int .i64 bd] 49)).drew := ⟨_, rfl⟩
 have L5 : Loc w5 (fun b => b < w2.heap.size) P5 [.string SG, .int .i64 gl, .slice ga m gc, .int .i64 gr, .int .i64 bd] := by rw [hw5, hP5]; exact (Loc.new (w := w2) (R := fun b => b < w2.heap.size) (Nat.lt_irrefl _) [.string SG, .int .i64 gl, .slice ga m gc, .int .i64 gr, .int .i64 bd] 49).keeps ((Keeps.refl (fun _ => False) _).drew)
 have k25 : Keeps (fun _ => False) w2 w5 := by rw [hw5]; exact ((Keeps.refl (fun _ => False) w2).alloc _).drew
 rw [← hw5, ← hP5]
 obtain ⟨P6, hP6⟩ : ∃ X, X = w5.heap.size := ⟨_, rfl⟩
 obtain ⟨w6, hw6⟩ : ∃ w6, w6 = w5.alloc (.cells #[.slice none 0 0] 42) := ⟨_, rfl⟩
 have k6 := Keeps.one w5 (.cells #[.slice none 0 0] 42)
 have hlt6 : P5 < P6 := by rw [hP6]; exact L5.lt
 have L6 : Loc w6 (fun _ => False) P6 [.slice none 0 0] := by rw [hw6, hP6]; exact Loc.new (R := fun _ => False) (fun h => h) [.slice none 0 0] 42
 clear hHeld hw5 hSw SK
 go_upto_region 5 with fail
 rw [← hP6]
 rw [← hw6] at k6 ⊢
 obtain ⟨R0, hR0⟩ : ∃ R0 : Nat → Prop, R0 = fun b => b = P6 := ⟨_, rfl⟩
 have k26 := Lib.hid (k25.trans k6 (fun _ _ h => h))
 have K6 := Lib.hid (K2.out.trans k26.out (fun _ _ h => h))
 have lt2 := HL2.out.lt
 have lt3 := HL3.out.lt
 have sz25 := k25.size
 have H2 := Lib.hid (show Loc w6 R0 P2 [.slice A M c, .slice (some ⟨fb, fo, none⟩) K c', .slice T M cT, .slice S M cS, .slice (some ⟨xb, xo, none⟩) M cF, .slice Z kz cZ] from ⟨(HL2.out.keeps k26.out).lt, fun h => by rw [hR0] at h; have h : P2 = P6 := h; omega, (HL2.out.keeps k26.out).cells, (HL2.out.keeps k26.out).fz⟩)
 have H3 := Lib.hid (show Loc w6 R0 P3 [.int .i64 jn] from ⟨(HL3.out.keeps k26.out).lt, fun h => by rw [hR0] at h; have h : P3 = P6 := h; omega, (HL3.out.keeps k26.out).cells, (HL3.out.keeps k26.out).fz⟩)
 have H5 := Lib.hid (show Loc w6 R0 P5 [.string SG, .int .i64 gl, .slice ga m gc, .int .i64 gr, .int .i64 bd] from ⟨(L5.keeps k6).lt, fun h => by rw [hR0] at h; have h : P5 = P6 := h; omega, (L5.keeps k6).cells, (L5.keeps k6).fz⟩)
 have HV0 := Lib.hid (show Vs w6 P6 w R0 [] from ⟨.slice none 0 0, { c := L6.cells 0 _ rfl, fz := L6.fz 0, lt := fun b hb => by rw [hR0] at hb; have hb : b = P6 := hb; rw [hb]; exact L6.lt, rB := by rw [hR0], own := World.ownsRow_nil _ _ _ _, vb := fun g hg => by simp [Value.ownBlock] at hg, up := K6.out.mono (fun _ _ h => h.elim), hi := fun b hb => by rw [hR0] at hb; have hb : b = P6 := hb; omega }⟩)
 have HGE := Lib.hid (show ∀ b, R0 b → w.heap.size ≤ b from fun b hb => by rw [hR0] at hb; have hb : b = P6 := hb; omega)
 have b2 := H5.out.cells 2 _ rfl
 clear L5 L6 k6 k25 hw6 hP6 hP5 hlt6 hR0 lt2 lt3 sz25 hB2
 go_wp2_with fail
 go_loopg [7, 8, 32] (m + 1) (fun gq s7 s8 s32 wr => ∃ (i : Nat) (R' : Nat → Prop), s32 = .int .i64 i ∧ i + gq = m + 1 ∧ i ≤ m ∧ Vs wr P6 w R' ((parV G.ps 0).take i) ∧ Fr R0 w6 R' wr)
 case atStart => exact ⟨0, R0, rfl, by omega, by omega, HV0.out, Fr.refl _ _⟩
 case round =>
  obtain ⟨i, R', rfl, hiq, hin1, hvs, hfr⟩ := hrel
  have HIQ := Lib.hid hiq
  have HVS := Lib.hid hvs
  have HFR := Lib.hid hfr
  have H2r := Lib.hid (H2.out.keep hfr)
  have H3r := Lib.hid (H3.out.keep hfr)
  have H5r := Lib.hid (H5.out.keep hfr)
  clear hiq hvs hfr b2
  by_cases hin : i < m
  ·have hI : (i : Int) < (m : Int) := by omega
   have hdI : decide ((i : Int) < (m : Int)) = true := decide_eq_true hI
   have hi0 : (0 : Int) ≤ (i : Int) := by omega
   have wi : IntKind.i64.wrap ((i : Int) + 1) = (i : Int) + 1 := IntWalk.i64_in _ (by omega)
   have HIN := Lib.hid hin
   have hil : i < G.ps.length := by rw [← HMG.out]; exact hin
   obtain ⟨p, hp⟩ : ∃ p, p = G.ps[i] := ⟨_, rfl⟩
   have hpi : G.ps[i]? = some p := by rw [hp]; exact List.getElem?_eq_getElem hil
   obtain ⟨pb, po, hga, hpc⟩ := HD5.out (by rw [flatP_length]; omega)
   obtain ⟨q0, q1⟩ := flatP2 G.ps i p hpi
   have c0 := HVS.out.old (hpc _ _ q0)
   have c1 := HVS.out.old (hpc _ _ q1)
   rw [← Nat.add_assoc] at c1
   obtain ⟨X, hX⟩ : ∃ X, X = ofL p.1 := ⟨_, rfl⟩
   obtain ⟨ty, hty⟩ : ∃ t, t = p.2 := ⟨_, rfl⟩
   rw [← hX] at c0
   rw [← hty] at c1
   have HX := Lib.hid (And.intro hX hty)
   have HTK : Hid ((parV G.ps 0).take (i + 1) = (parV G.ps 0).take i ++ [⟨p.1, p.2, (i : Int)⟩]) := Lib.hid (parV_take G.ps i p hpi)
   have HLEN : Hid (((parV G.ps 0).take i).length = i) := Lib.hid (by rw [List.length_take, parV_len]; omega)
   subst hga
   obtain ⟨v, hx⟩ := HVS.out
   obtain ⟨A1, c1', rfl⟩ := own_formk hx.own
   have y6 := hx.c
   have z6 := hx.fz
   have HX7 := Lib.hid hx
   rw [HLEN.out] at y6
   obtain ⟨P8, hP8⟩ : ∃ X, X = wr.heap.size := ⟨_, rfl⟩
   obtain ⟨w7, hw7⟩ : ∃ w7, w7 = wr.alloc (.cells #[.string X, .int .i64 ty] 69) := ⟨_, rfl⟩
   have k7 := Keeps.one wr (.cells #[.string X, .int .i64 ty] 69)
   have L8 : Loc w7 (fun _ => False) P8 [.string X, .int .i64 ty] := by rw [hw7, hP8]; exact Loc.new (R := fun _ => False) (fun h => h) [.string X, .int .i64 ty] 69
   clear hx hp hpi hpc q0 q1 hX hty hil hin hin1
   go_upto_region 8 with fail
   rw [← hP8]
   rw [← hw7] at k7 ⊢
   have y67 := (k7.cell (cell_ltk y6) (fun h => h)).trans y6
   have e0 := L8.cells 0 _ rfl
   have e1 := L8.cells 1 _ rfl
   have HADD : Hid (∀ w3 w5 v5, Keeps (fun _ => False) w7 w3 → w5.ownsRow 0 46 3 v5 (i + 1) (flatV ((parV G.ps 0).take i) ++ [.string X, .int .i64 ty, .int .i64 i]) → w3.grownBy w5 (Value.slice A1 i c1').ownBlock → (v5.ownBlock = (Value.slice A1 i c1').ownBlock ∨ v5.ownBlock = some w3.heap.size) → (w5.cell? ⟨P6, 0, none⟩ = some (.slice A1 i c1') ∧ w5.frozen? ⟨P6, 0, none⟩ = false) ∧ ∃ R9, Vs (w5.setCell ⟨P6, 0, none⟩ v5) P6 w R9 ((parV G.ps 0).take (i + 1)) ∧ Fr R0 w6 R9 (w5.setCell ⟨P6, 0, none⟩ v5)) := Lib.hid (fun w3 w5 v5 k1 ho hg hb => by
    have hh := (HX7.out.keep k7).grow k1 ⟨p.1, p.2, (i : Int)⟩ (v5 := v5) (w5 := w5) (by rw [HLEN.out, ← HX.out.1, ← HX.out.2]; exact ho) (by rw [HLEN.out]; exact hg) (by rw [HLEN.out]; exact hb)
    rw [HLEN.out] at hh
    obtain ⟨h1, R9, h2, h3⟩ := hh
    rw [HTK.out]
    exact ⟨h1, R9, h2, (HFR.out.keeps k7).trans h3⟩)
   have hOwn : Hid (∀ w3, Keeps (fun _ => False) w7 w3 → w3.ownsRow 0 46 3 (.slice A1 i c1') i (flatV ((parV G.ps 0).take i))) := Lib.hid (fun w3 k => by
    have h := ((HX7.out.keep k7).keep k).own
    rw [HLEN.out] at h
    exact h)
   obtain ⟨hi0v, hz0v, hz1v, hz2v⟩ := HI0.out
   clear k7 hw7 hP8 L8 y6 z6 c0 c1
   go_wp2_with (at_builtin; refine wpList_append_atk rfl (.tmp 37) (.tmp 44) 42 rfl 0 46 i0 _ 3 32 Tryz.underlying42 hi0v hz0v hz1v hz2v (by rfl) (by omega) (.slice A1 i c1') i (flatV ((parV G.ps 0).take i)) (by rfl) (hOwn.out _ (Keeps.one w7 _)) ⟨w7.heap.size, 0, none⟩ 1 1 [.string X, .int .i64 ty, .int .i64 i] (by rfl) (by rfl) (news_abc _ _ _ _) (by intro u hu; simp only [List.mem_cons, List.not_mem_nil, or_false] at hu; rcases hu with rfl | rfl | rfl <;> rfl) (by have := HIN.out; omega) (by omega) (Nat.zero_le _) ?_; intro v5 w9 h5 g5 b5; obtain ⟨A5, c5, rfl⟩ := own_formk h5; have GG := HADD.out _ w9 _ (Keeps.one w7 _) h5 g5 b5; obtain ⟨⟨d6, f6⟩, GR⟩ := GG; replace GR := Lib.hid GR; clear h5 g5 b5 y67 e0 e1 hi0v hz0v hz1v hz2v)
   obtain ⟨R9, hv9, hf9⟩ := GR.out
   go_roundg (gk - 1)
   case measure => go_light; have h1 := HIQ.out; have h2 := HIN.out; omega
   case rel => exact ⟨i + 1, R9, by go_num, by have h1 := HIQ.out; have h2 := HIN.out; go_light; omega, by have h2 := HIN.out; go_light; omega, hv9, hf9⟩
  ·obtain rfl : m = i := by omega
   have hI : ¬ (m : Int) < (m : Int) := by omega
   have hdI : decide ((m : Int) < (m : Int)) = false := decide_eq_false hI
   have HTK : Hid ((parV G.ps 0).take m = parV G.ps 0) := Lib.hid (List.take_of_length_le (by rw [parV_len]; have := HMG.out; omega))
   have HV := Lib.hid HVS.out
   rw [HTK.out] at HV
   obtain ⟨P9, hP9⟩ : ∃ X, X = wr.heap.size := ⟨_, rfl⟩
   have hnew : ¬ R' wr.heap.size := by
    obtain ⟨_, hx⟩ := HVS.out
    exact fun h => Nat.lt_irrefl _ (hx.lt _ h)
   clear hin hin1
   obtain ⟨w9, hw9⟩ : ∃ w9, w9 = wr.alloc (.cells #[.nilFunc] 58) := ⟨_, rfl⟩
   have k9 := Keeps.one wr (.cells #[.nilFunc] 58)
   have L9 : Loc w9 R' P9 [.nilFunc] := by rw [hw9, hP9]; exact Loc.new hnew [.nilFunc] 58
   go_upto_region 11 with fail
   rw [← hP9]
   rw [← hw9] at k9 ⊢
   have f0 := L9.cells 0 _ rfl
   have g0 := L9.fz 0
   have L10 := L9.put 0 (.func (.func 31) #[] #[.pointer (some ⟨P6, 0, none⟩), .pointer (some ⟨P2, 0, none⟩), .pointer (some ⟨P3, 0, none⟩), .pointer (some ⟨P9, 0, none⟩)]) (by decide)
   have k10 : Keeps (fun _ => False) wr (w9.setCell ⟨P9, 0, none⟩ (.func (.func 31) #[] #[.pointer (some ⟨P6, 0, none⟩), .pointer (some ⟨P2, 0, none⟩), .pointer (some ⟨P3, 0, none⟩), .pointer (some ⟨P9, 0, none⟩)])) := kback ((k9.mono (T := fun b => wr.heap.size ≤ b) (fun _ _ h => h.elim)).trans (one_block w9 P9 0 _) (fun x hx e => by have e : x = P9 := e; rw [e, hP9]; exact Nat.le_refl _)) rfl
   have HK10 := Lib.hid k10
   have HL10 := Lib.hid (show Loc (w9.setCell ⟨P9, 0, none⟩ (.func (.func 31) #[] #[.pointer (some ⟨P6, 0, none⟩), .pointer (some ⟨P2, 0, none⟩), .pointer (some ⟨P3, 0, none⟩), .pointer (some ⟨P9, 0, none⟩)])) R' P9 [.func (.func 31) #[] #[.pointer (some ⟨P6, 0, none⟩), .pointer (some ⟨P2, 0, none⟩), .pointer (some ⟨P3, 0, none⟩), .pointer (some ⟨P9, 0, none⟩)]] from L10)
   clear hw9 hP9 L10 k10 L9 k9 hnew
   go_upto_region 12 with fail
   clear f0 g0
   generalize w9.setCell ⟨P9, 0, none⟩ (.func (.func 31) #[] #[.pointer (some ⟨P6, 0, none⟩), .pointer (some ⟨P2, 0, none⟩), .pointer (some ⟨P3, 0, none⟩), .pointer (some ⟨P9, 0, none⟩)]) = w10 at HK10 HL10 ⊢
   have epr : ([.slice A M c, .slice (some ⟨fb, fo, none⟩) K c', .slice T M cT, .slice S M cS, .slice (some ⟨xb, xo, none⟩) M cF, .slice Z kz cZ] : List Value) = prgV nd fs L A A' T S F Z c c' cT cS cF cZ kz := by
    unfold prgV
    rw [HA'.out, HF.out, HL6.out, ← HM.out, ← HK.out]
   have HLK : Hid (LkW nd fs L A A' T S F Z c c' cT cS cF cZ kz w node P6 P2 P3 P9 w10 R' (parV G.ps 0)) := Lib.hid ⟨HV.out.keep HK10.out, by rw [← epr]; exact H2r.out.keeps HK10.out, by rw [HJN.out]; exact H3r.out.keeps HK10.out, HL10.out, by rw [parV_len]; have := HG.out.2.1; omega⟩
   have NC := Lib.hid ((lk_B HPB.out HM6.out HL6.out a b (parV G.ps 0) HG.out.2.2.2.1 (by rw [parV_len]; have h1 := HG.out.2.1; have h2 := HG.out.2.2.2.2; omega)) w10 R' HLK.out)
   rw [← HG.out.2.2.1, ← HBD.out, parV_len] at NC
   have x9 := HL10.out.cells 0 _ rfl
   have b4 := (H5r.out.keeps HK10.out).cells 4 _ rfl
   obtain ⟨r, hr⟩ : ∃ r, r = lookR G.ps.length (vsL L node a b (parV G.ps 0)) := ⟨_, rfl⟩
   rw [← hr] at NC
   have HRE := Lib.hid hr
   have HFR10 := Lib.hid (HFR.out.keeps HK10.out)
   clear hr epr
   cases hb : r.1 with
   | true =>
    rw [hb] at NC
    have HRV : Hid (visR r = r.2) := Lib.hid (by unfold visR; rw [hb]; rfl)
    clear hb
    go_wp2_with fail
    refine NC.out.mono ?_
    rintro e w11 ⟨rfl, R11, hv11, hf11⟩
    obtain ⟨v11, hx11⟩ := hv11
    obtain ⟨A3, c3, rfl⟩ := own_formk hx11.own
    have y6 := hx11.c
    have HRD := Lib.hid (own_rdG hx11.own)
    have HKF := Lib.hid (show Keeps (fun _ => False) w w11 from kback (((K6.out.mono (T := fun b => w.heap.size ≤ b) (fun _ _ h => h.elim)).trans (HFR10.out.trans hf11).1 (fun x hx h => HGE.out x h))) rfl)
    obtain ⟨n3, hn3⟩ : ∃ t, t = r.2.length := ⟨_, rfl⟩
    replace y6 : w11.cell? ⟨P6, 0, none⟩ = some (.slice A3 n3 c3) := by rw [hn3]; exact y6
    have HN3 := Lib.hid hn3
    clear hx11 hf11 NC x9 b4 hn3
    go_wp2_with fail
    go_ret
    rw [← HJN.out, ← HRE.out, HRV.out]
    exact ⟨A3, c3, by rw [← HN3.out]; first | done | rfl, HRD.out, HKF.out⟩
   | false =>
    rw [hb] at NC
    have HRV : Hid (visR r = []) := Lib.hid (by unfold visR; rw [hb]; rfl)
    clear hb
    go_wp2_with fail
    refine NC.out.mono ?_
    rintro e w11 ⟨rfl, R11, hv11, hf11⟩
    have HKF := Lib.hid (show Keeps (fun _ => False) w w11 from kback (((K6.out.mono (T := fun b => w.heap.size ≤ b) (fun _ _ h => h.elim)).trans (HFR10.out.trans hf11).1 (fun x hx h => HGE.out x h))) rfl)
    clear hv11 hf11 NC x9 b4
    go_wp2_with fail
    go_ret
    rw [← HJN.out, ← HRE.out, HRV.out]
    exact ⟨none, 0, by first | done | rfl, fun h => absurd h (by simp [flatV]), HKF.out⟩
end Go.Proofs.YtbhpnioggpgbhaaGreatDoor
