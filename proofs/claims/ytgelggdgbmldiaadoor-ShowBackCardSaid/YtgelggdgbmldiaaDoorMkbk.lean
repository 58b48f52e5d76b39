/-
  Layer 3: a tree's syntax, and what its nodes stand for; the pieces' bytes are the text; its lines (data). Written by an AI agent.
  Layer 2: two runs of the parser's data, side by side. Written by an AI agent.
-/
import Derived.Test.YtgelggdgbmldiaaDoorMkbj
namespace Go.Proofs.YtgelggdgbmldiaaDoor
set_option linter.unusedVariables false
set_option linter.unusedSimpArgs false

/-! The pieces' bytes. -/
theorem lvX_lvE : ∀ e : Ex, lvX e = lvE e := by intro e; cases e <;> rfl
theorem rend_par (b : Bool) (l : List Pc) : rend (parP b l) = parL b (rend l) := by
  unfold parP parL
  cases b with
  | false => rfl
  | true =>
    show rend (sgn [40] :: (l ++ [sgn [41]])) = 40 :: (rend l ++ [41])
    rw [rend_cons, rend_append]
    rfl
theorem rend_E : ∀ e : Ex, rend (pcE e) = showE e := by
  intro e
  induction e with
  | int n => unfold pcE rend pcB showE; simp
  | bool b => cases b <;> rfl
  | text s => unfold pcE rend pcB showE; simp
  | var s => unfold pcE rend pcB showE; simp
  | index s a ih =>
    show rend (⟨3, s, []⟩ :: sgn [91] :: (pcE a ++ [sgn [93]])) = s ++ 91 :: (showE a ++ [93])
    rw [rend_cons, rend_cons, rend_append, ih]
    simp [pcB, sgn, rend]
  | len a ih =>
    show rend (⟨4, [108, 101, 110], []⟩ :: sgn [40] :: (pcE a ++ [sgn [41]])) = 108 :: 101 :: 110 :: 40 :: (showE a ++ [41])
    rw [rend_cons, rend_cons, rend_append, ih]
    simp [pcB, sgn, rend]
  | neg a ih =>
    show rend (sgn [45] :: parP (decide (lvX a < 5)) (pcE a)) = 45 :: parL (decide (lvE a < 5)) (showE a)
    rw [rend_cons, rend_par, ih, lvX_lvE]
    rfl
  | not a ih =>
    show rend (sgn [33] :: parP (decide (lvX a < 5)) (pcE a)) = 33 :: parL (decide (lvE a < 5)) (showE a)
    rw [rend_cons, rend_par, ih, lvX_lvE]
    rfl
  | bin s a b iha ihb =>
    show rend (parP (decide (lvX a < lft (lvS s))) (pcE a) ++ sgn s :: parP (decide (lvX b < lvS s + 1)) (pcE b)) = parL (decide (lvE a < leftL (lvl s))) (showE a) ++ (s ++ parL (decide (lvE b < lvl s + 1)) (showE b))
    rw [rend_append, rend_cons, rend_par, rend_par, iha, ihb, lvX_lvE, lvX_lvE]
    simp [pcB, sgn]
    rfl
theorem rend_A : ∀ l : List Ex, rend (pcA l) = joinC l := by
  have hC : ∀ (l : List Ex) (e : Ex), showE e ++ rend (pcC l) = joinC (e :: l) := by
    intro l
    induction l with
    | nil => intro e; show showE e ++ [] = showE e; simp
    | cons f l ih =>
      intro e
      show showE e ++ rend (sgn [44] :: (pcE f ++ pcC l)) = showE e ++ 44 :: joinC (f :: l)
      rw [rend_cons, rend_append, rend_E, ih]
      rfl
  intro l
  cases l with
  | nil => rfl
  | cons e l =>
    show rend (pcE e ++ pcC l) = _
    rw [rend_append, rend_E, hC]
theorem rend_R : ∀ r : Rt, rend (pcR r) = showR r
  | .ex e => rend_E e
  | .input => rfl
  | .new a => by
    show rend (⟨4, [110, 101, 119], []⟩ :: sgn [40] :: (pcE a ++ [sgn [41]])) = 110 :: 101 :: 119 :: 40 :: (showE a ++ [41])
    rw [rend_cons, rend_cons, rend_append, rend_E]
    simp [pcB, sgn, rend]
  | .call s l => by
    show rend (⟨3, s, []⟩ :: sgn [40] :: (pcA l ++ [sgn [41]])) = s ++ 40 :: (joinC l ++ [41])
    rw [rend_cons, rend_cons, rend_append, rend_A]
    simp [pcB, sgn, rend]
mutual
theorem rend_S : ∀ s : Stm, rend (pcS s) = showS s
  | .lt s r => by unfold pcS showS; simp only [rend_cons, rend_append, rend_R, rend_nil]; simp [pcB, sgn, endP]
  | .set s r => by unfold pcS showS; simp only [rend_cons, rend_append, rend_R, rend_nil]; simp [pcB, sgn, endP]
  | .put s a b => by unfold pcS showS; simp only [rend_cons, rend_append, rend_E, rend_nil]; simp [pcB, sgn, endP]
  | .doo s l => by unfold pcS showS; simp only [rend_cons, rend_append, rend_R, rend_nil]; simp [pcB, sgn, endP]
  | .print a => by unfold pcS showS; simp only [rend_cons, rend_append, rend_E, rend_nil]; simp [pcB, sgn, endP]
  | .ret0 => by unfold pcS showS; rfl
  | .ret1 a => by unfold pcS showS; simp only [rend_cons, rend_append, rend_E, rend_nil]; simp [pcB, sgn, endP]
  | .ifs c a => by unfold pcS showS; simp only [rend_cons, rend_append, rend_E, rend_L a, rend_nil]; simp [pcB, sgn, opP, clP]
  | .ifelse c a d => by unfold pcS showS; simp only [rend_cons, rend_append, rend_E, rend_L a, rend_L d, rend_nil]; simp [pcB, sgn, opP, clP]
  | .whil c a => by unfold pcS showS; simp only [rend_cons, rend_append, rend_E, rend_L a, rend_nil]; simp [pcB, sgn, opP, clP]
theorem rend_L : ∀ b : Bl, rend (pcL b) = showB b
  | .nil => by unfold pcL showB; rfl
  | .cons s l => by unfold pcL showB; rw [rend_append, rend_S s, rend_L l]
end
theorem wrd_wordL (t : Int) : wrd t = wordL t := rfl
theorem rend_O : ∀ l : List (List UInt8 × Int), rend (pcO l) = joinX (l.map paramL) := by
  have hM : ∀ p, rend (pcM p) = paramL p := by
    intro p
    unfold pcM paramL
    simp only [rend_cons, rend_nil, wrd_wordL]
    simp [pcB]
  have hN : ∀ (l : List (List UInt8 × Int)) p, paramL p ++ rend (pcN l) = joinX ((p :: l).map paramL) := by
    intro l
    induction l with
    | nil => intro p; show paramL p ++ [] = paramL p; simp
    | cons q l ih =>
      intro p
      show paramL p ++ rend (sgn [44] :: (pcM q ++ pcN l)) = paramL p ++ 44 :: joinX ((q :: l).map paramL)
      rw [rend_cons, rend_append, hM, ih]
      rfl
  intro l
  cases l with
  | nil => rfl
  | cons p l =>
    show rend (pcM p ++ pcN l) = _
    rw [rend_append, hM, hN]
theorem rend_W {t : Int} (h : 0 ≤ t ∧ t ≤ 4) : rend (pcW t) = wordL t := by
  have : t = 0 ∨ t = 1 ∨ t = 2 ∨ t = 3 ∨ t = 4 := by omega
  rcases this with rfl | rfl | rfl | rfl | rfl <;> rfl
theorem rend_F {p : Fnc × Bl} (h : 0 ≤ p.1.ret ∧ p.1.ret ≤ 4) : rend (pcF p) = textF p := by
  unfold pcF textF showK
  simp only [rend_cons, rend_append, rend_O, rend_W h, rend_L, rend_nil]
  simp [pcB, sgn, opP, clP]
theorem rend_T : ∀ ps : List (Fnc × Bl), (∀ p ∈ ps, WF p.1 p.2) → rend (pcT ps) = textT ps
  | [], _ => rfl
  | p :: ps, h => by
    show rend (pcF p ++ pcT ps) = textF p ++ textT ps
    rw [rend_append, rend_F (h p (by simp)).2.2.1, rend_T ps fun q hq => h q (by simp [hq])]

/-! What the nodes stand for. -/
/-- The nodes at a place, but for lines. -/
def FlAt (nd : List Nd) (b : Nat) (l : List Nd) : Prop := ∃ pre post, nd.map uz = pre ++ (l ++ post) ∧ pre.length = b
theorem FlAt.left {nd : List Nd} {b : Nat} {l m : List Nd} (h : FlAt nd b (l ++ m)) : FlAt nd b l := by
  obtain ⟨pre, post, h1, h2⟩ := h
  exact ⟨pre, m ++ post, by rw [h1, List.append_assoc], h2⟩
theorem FlAt.right {nd : List Nd} {b c : Nat} {l m : List Nd} (h : FlAt nd b (l ++ m)) (hc : c = b + l.length) : FlAt nd c m := by
  obtain ⟨pre, post, h1, h2⟩ := h
  exact ⟨pre ++ l, post, by rw [h1]; simp, by rw [List.length_append, h2, hc]⟩
theorem FlAt.at {nd : List Nd} {b : Nat} {n : Nd} (h : FlAt nd b [n]) : At nd ((b : Nat) : Int) n.k n.n n.s n.l := by
  obtain ⟨pre, post, h1, h2⟩ := h
  have h3 : (nd.map uz)[b]? = some n := by
    rw [h1, ← h2, List.getElem?_append_right (Nat.le_refl _), Nat.sub_self]
    rfl
  rw [List.getElem?_map] at h3
  cases hg : nd[b]? with
  | none => rw [hg] at h3; cases h3
  | some q =>
    rw [hg] at h3
    have h4 : uz q = n := Option.some.inj h3
    refine ⟨b, q.ln, rfl, ?_⟩
    rw [hg, ← h4]
    rfl
theorem name_q {s : List UInt8} (h : NameOK s) : qshow s := by have := h.2.2.2.1; show s.length ≤ 1000; omega
theorem text_q {s : List UInt8} (h : TextOK s) : qshow s := by have := h.2; show s.length ≤ 1000; omega
theorem rep_E {nd : List Nd} : ∀ (e : Ex) (b lv : Nat) (d : Int), WE lv d e → FlAt nd b (flE e b) → RepE qshow nd e ((b + kE e : Nat) : Int) := by
  intro e
  induction e with
  | int n => exact fun b _ _ h g => ⟨g.at, h⟩
  | bool t => exact fun b _ _ h g => g.at
  | text s => exact fun b _ _ h g => ⟨g.at, text_q h⟩
  | var s => exact fun b _ _ h g => ⟨g.at, name_q h⟩
  | index s a ih => exact fun b _ d h g => ⟨_, (g.right (c := b + (kE a + 1)) (by rw [flE_len])).at, name_q h.1, ih b _ _ h.2.2 g.left⟩
  | len a ih => exact fun b _ d h g => ⟨_, (g.right (c := b + (kE a + 1)) (by rw [flE_len])).at, ih b _ _ h.2 g.left⟩
  | neg a ih => exact fun b _ d h g => ⟨_, (g.right (c := b + (kE a + 1)) (by rw [flE_len])).at, ih b _ _ h.2 g.left⟩
  | not a ih => exact fun b _ d h g => ⟨_, (g.right (c := b + (kE a + 1)) (by rw [flE_len])).at, ih b _ _ h.2 g.left⟩
  | bin s a c iha ihc =>
    intro b lv d h g
    have g : FlAt nd b (flE a b ++ flE c (b + kE a + 1) ++ [⟨9, 0, 0, s, [((b + kE a : Nat) : Int), ((b + kE a + 1 + kE c : Nat) : Int)]⟩]) := g
    have h2 : (∃ lv d, WE lv d a) ∧ ∃ lv d, WE lv d c := by
      have h3 := h.2
      split at h3
      · exact ⟨⟨_, _, h3.2.1⟩, ⟨_, _, h3.2.2⟩⟩
      · exact ⟨⟨_, _, h3.1⟩, ⟨_, _, h3.2⟩⟩
    obtain ⟨⟨_, _, ha⟩, ⟨_, _, hc⟩⟩ := h2
    refine ⟨_, _, (g.right (c := b + (kE a + 1 + (kE c + 1))) (by rw [List.length_append, flE_len, flE_len])).at, h.1, iha b _ _ ha g.left.left, ?_⟩
    exact ihc (b + kE a + 1) _ _ hc (g.left.right (by rw [flE_len]; omega))
theorem rep_Es {nd : List Nd} : ∀ (l : List Ex) (b : Nat) (d : Int), (∀ e ∈ l, WE 0 d e) → FlAt nd b (flEs l b) → RepEs qshow nd l (rootEs l b)
  | [], _, _, _, _ => trivial
  | e :: l, b, d, h, g => by
    have g : FlAt nd b (flE e b ++ flEs l (b + kE e + 1)) := g
    exact ⟨rep_E e b 0 d (h e (by simp)) g.left, rep_Es l (b + kE e + 1) d (fun q hq => h q (by simp [hq])) (g.right (by rw [flE_len]; omega))⟩
theorem rep_R {nd : List Nd} {d : Int} (r : Rt) (b : Nat) (h : WR d r) (g : FlAt nd b (flR r b)) : RepR qshow nd r ((b + kR r : Nat) : Int) := by
  cases r with
  | ex e => exact rep_E e b 0 d h g
  | input => exact g.at
  | new a => exact ⟨_, (g.right (c := b + (kE a + 1)) (by rw [flE_len])).at, rep_E a b 0 d h g.left⟩
  | call s l => exact ⟨_, (g.right (c := b + kEs l) (by rw [flEs_len])).at, name_q h.1, rep_Es l b d h.2 g.left⟩
mutual
theorem rep_S {nd : List Nd} : ∀ (s : Stm) (b : Nat) (d : Int), WS d s → FlAt nd b (flS s b) → RepS qshow nd s ((b + kS s : Nat) : Int)
  | .lt s r, b, d, h, g => by
    unfold WS at h
    unfold flS at g
    unfold RepS kS
    exact ⟨_, (g.right (c := b + (kR r + 1)) (by rw [flR_len])).at, name_q h.1, rep_R r b h.2 g.left⟩
  | .set s r, b, d, h, g => by
    unfold WS at h
    unfold flS at g
    unfold RepS kS
    exact ⟨_, (g.right (c := b + (kR r + 1)) (by rw [flR_len])).at, name_q h.1, rep_R r b h.2 g.left⟩
  | .put s a c, b, d, h, g => by
    unfold WS at h
    unfold flS at g
    unfold RepS kS
    exact ⟨_, _, (g.right (c := b + (kE a + 1 + (kE c + 1))) (by rw [List.length_append, flE_len, flE_len])).at, name_q h.1, rep_E a b _ _ h.2.2.1 g.left.left, rep_E c (b + kE a + 1) _ _ h.2.2.2 (g.left.right (by rw [flE_len]; omega))⟩
  | .doo s l, b, d, h, g => by
    unfold WS at h
    unfold flS at g
    unfold RepS kS
    exact ⟨_, (g.right (c := b + (kEs l + 1)) (by rw [flR_len]; rfl)).at, rep_R (.call s l) b h g.left⟩
  | .print a, b, d, h, g => by
    unfold WS at h
    unfold flS at g
    unfold RepS kS
    exact ⟨_, (g.right (c := b + (kE a + 1)) (by rw [flE_len])).at, rep_E a b _ _ h g.left⟩
  | .ret0, b, d, h, g => by
    unfold flS at g
    unfold RepS kS
    exact g.at
  | .ret1 a, b, d, h, g => by
    unfold WS at h
    unfold flS at g
    unfold RepS kS
    exact ⟨_, (g.right (c := b + (kE a + 1)) (by rw [flE_len])).at, rep_E a b _ _ h g.left⟩
  | .ifs c a, b, d, h, g => by
    unfold WS at h
    unfold flS at g
    unfold RepS kS
    have g2 := g.left.right (c := b + kE c + 1) (by rw [flE_len]; omega)
    exact ⟨_, _, _, (g.right (c := b + (kE c + 1 + (kB a + 1))) (by rw [List.length_append, List.length_append, flE_len, flB_len]; rfl)).at, rep_E c b _ _ h.1 g.left.left, (g2.right (c := b + kE c + 1 + kB a) (by rw [flB_len])).at, rep_B a (b + kE c + 1) _ h.2.2 g2.left⟩
  | .ifelse c a e, b, d, h, g => by
    unfold WS at h
    unfold flS at g
    unfold RepS kS
    have g2 := g.left.left.right (c := b + kE c + 1) (by rw [flE_len]; omega)
    have g3 := g.left.right (c := b + kE c + 1 + kB a + 1) (by rw [List.length_append, List.length_append, flE_len, flB_len]; show _ = b + (kE c + 1 + (kB a + 1)); omega)
    exact ⟨_, _, _, _, _, (g.right (c := b + (kE c + 1 + (kB a + 1) + (kB e + 1))) (by rw [List.length_append, List.length_append, List.length_append, List.length_append, flE_len, flB_len, flB_len]; rfl)).at, rep_E c b _ _ h.1 g.left.left.left, (g2.right (c := b + kE c + 1 + kB a) (by rw [flB_len])).at, rep_B a (b + kE c + 1) _ h.2.2.1 g2.left, (g3.right (c := b + kE c + 1 + kB a + 1 + kB e) (by rw [flB_len])).at, rep_B e (b + kE c + 1 + kB a + 1) _ h.2.2.2 g3.left⟩
  | .whil c a, b, d, h, g => by
    unfold WS at h
    unfold flS at g
    unfold RepS kS
    have g2 := g.left.right (c := b + kE c + 1) (by rw [flE_len]; omega)
    exact ⟨_, _, _, (g.right (c := b + (kE c + 1 + (kB a + 1))) (by rw [List.length_append, List.length_append, flE_len, flB_len]; rfl)).at, rep_E c b _ _ h.1 g.left.left, (g2.right (c := b + kE c + 1 + kB a) (by rw [flB_len])).at, rep_B a (b + kE c + 1) _ h.2.2 g2.left⟩
theorem rep_B {nd : List Nd} : ∀ (l : Bl) (b : Nat) (d : Int), WB d l → FlAt nd b (flB l b) → RepB qshow nd l (rootB l b)
  | .nil, b, d, h, g => by unfold rootB RepB; trivial
  | .cons s l, b, d, h, g => by
    unfold WB at h
    unfold flB at g
    unfold rootB RepB
    exact ⟨rep_S s b d h.1 g.left, rep_B l (b + kS s + 1) d h.2 (g.right (by rw [flS_len]; omega))⟩
end
theorem sumC_uz : ∀ nd : List Nd, sumC (nd.map uz) = sumC nd
  | [] => rfl
  | n :: l => by show ((uz n).s.length + 60) + sumC (l.map uz) = (n.s.length + 60) + sumC l; rw [sumC_uz l]; rfl
theorem sum_E : ∀ (e : Ex) (b : Nat), sumC (flE e b) = massE e := by
  intro e
  induction e with
  | int n => intro b; rfl
  | bool t => intro b; rfl
  | text s => intro b; rfl
  | var s => intro b; rfl
  | index s a ih => intro b; show sumC (flE a b ++ [_]) = massE a + (s.length + 60); rw [sumC_append, ih]; rfl
  | len a ih => intro b; show sumC (flE a b ++ [_]) = massE a + 60; rw [sumC_append, ih]; rfl
  | neg a ih => intro b; show sumC (flE a b ++ [_]) = massE a + 60; rw [sumC_append, ih]; rfl
  | not a ih => intro b; show sumC (flE a b ++ [_]) = massE a + 60; rw [sumC_append, ih]; rfl
  | bin s a c iha ihc => intro b; show sumC (flE a b ++ flE c _ ++ [_]) = massE a + massE c + (s.length + 60); rw [sumC_append, sumC_append, iha, ihc]; rfl
theorem sum_Es : ∀ (l : List Ex) (b : Nat), sumC (flEs l b) = massEs l
  | [], _ => rfl
  | e :: l, b => by show sumC (flE e b ++ flEs l _) = massE e + massEs l; rw [sumC_append, sum_E, sum_Es l]
theorem sum_R (r : Rt) (b : Nat) : sumC (flR r b) = massR r := by
  cases r with
  | ex e => exact sum_E e b
  | input => rfl
  | new a => show sumC (flE a b ++ [_]) = massE a + 60; rw [sumC_append, sum_E]; rfl
  | call s l => show sumC (flEs l b ++ [_]) = massEs l + (s.length + 60); rw [sumC_append, sum_Es]; rfl
mutual
theorem sum_S : ∀ (s : Stm) (b : Nat), sumC (flS s b) = massS s
  | .lt s r, b => by unfold flS massS; rw [sumC_append, sum_R]; rfl
  | .set s r, b => by unfold flS massS; rw [sumC_append, sum_R]; rfl
  | .put s a c, b => by unfold flS massS; rw [sumC_append, sumC_append, sum_E, sum_E]; rfl
  | .doo s l, b => by unfold flS massS; rw [sumC_append, sum_R]; rfl
  | .print a, b => by unfold flS massS; rw [sumC_append, sum_E]; rfl
  | .ret0, b => by unfold flS massS; rfl
  | .ret1 a, b => by unfold flS massS; rw [sumC_append, sum_E]; rfl
  | .ifs c a, b => by unfold flS massS; rw [sumC_append, sumC_append, sumC_append, sum_E, sum_B]; rfl
  | .ifelse c a e, b => by unfold flS massS; rw [sumC_append, sumC_append, sumC_append, sumC_append, sumC_append, sum_E, sum_B, sum_B]; rfl
  | .whil c a, b => by unfold flS massS; rw [sumC_append, sumC_append, sumC_append, sum_E, sum_B]; rfl
theorem sum_B : ∀ (l : Bl) (b : Nat), sumC (flB l b) = massB l
  | .nil, b => by unfold flB massB; rfl
  | .cons s l, b => by unfold flB massB; rw [sumC_append, sum_S, sum_B]
end
theorem sum_T : ∀ (l : List (Fnc × Bl)) (b : Nat), sumC (flT l b) = massF l
  | [], _ => rfl
  | p :: l, b => by
    show sumC ((flB p.2 b ++ [⟨18, 0, 0, [], rootB p.2 b⟩]) ++ flT l _) = (massB p.2 + 60) + massF l
    rw [sumC_append, sumC_append, sum_B, sum_T l]
    rfl
theorem rep_T : ∀ (l : List (Fnc × Bl)) (nd : List Nd) (b : Nat), (∀ p ∈ l, WF p.1 p.2) → BodyOK l b → FlAt nd b (flT l b) → ∀ p ∈ l, ∃ xs, At nd p.1.body 18 0 [] xs ∧ RepB qshow nd p.2 xs
  | [], _, _, _, _, _, p, hp => by cases hp
  | q :: l, nd, b, h, hb, g, p, hp => by
    have g : FlAt nd b (flB q.2 b ++ [⟨18, 0, 0, [], rootB q.2 b⟩] ++ flT l (b + kB q.2 + 1)) := g
    rcases List.mem_cons.1 hp with rfl | hp
    · exact ⟨_, by rw [hb.1]; exact (g.left.right (c := b + kB p.2) (by rw [flB_len])).at, rep_B p.2 b 1 (h p (by simp)).2.2.2 g.left.left⟩
    · exact rep_T l nd (b + kB q.2 + 1) (fun r hr => h r (by simp [hr])) hb.2 (g.right (by rw [List.length_append, flB_len]; show _ = b + (kB q.2 + 1); omega)) p hp
/-- What a walk over a tree's text wants, and the syntax. -/
theorem rep_of_wt {nd : List Nd} {fs : List Fnc} {ps : List (Fnc × Bl)} (h : WT nd fs ps) : fs = ps.map Prod.fst ∧ (∀ p ∈ ps, FnOK qshow p.1) ∧ (∀ p ∈ ps, ∃ xs, At nd p.1.body 18 0 [] xs ∧ RepB qshow nd p.2 xs) ∧ massF ps = sumC nd := by
  refine ⟨h.fns, fun p hp => ?_, rep_T ps nd 0 h.ok h.bod ⟨[], [], by rw [h.nds]; simp, rfl⟩, by rw [← sumC_uz, h.nds, sum_T]⟩
  obtain ⟨h1, h2, h3, _⟩ := h.ok p hp
  exact ⟨name_q h1, h3, fun q hq => ⟨name_q (h2 q hq).1, by have := (h2 q hq).2; omega, (h2 q hq).2.2⟩⟩
theorem names_wt {nd : List Nd} {fs : List Fnc} {src : List UInt8} (hl : src.length ≤ 600) (hn : (lexL src 0).2 = none) (hres : allP 6100 src = some (.inr (nd, fs))) : ∀ n ∈ nd, qshow n.s := by
  obtain ⟨ps, h⟩ := tree_rep hres (qt_of src hn hl)
  exact h.names

/-! Lines. -/
end Go.Proofs.YtgelggdgbmldiaaDoor

namespace Go.Proofs.YtgelggdgbmldiaaDoor
set_option linter.unusedVariables false
set_option linter.unusedSimpArgs false
/-- What two runs' states have in common: the one is as the other, a number moved; and lines as they may. -/
structure Prim (src src' : List UInt8) (T T' : List Tok) (Rel : PS → PS → Prop) (Lost : PS → Prop) (ph : Int → Int) (RL : Int → Int → Prop) : Prop where
  lost : LostP T Lost
  is_ : ∀ s s' ts, Rel s s' → isS T' ts s' = isS T ts s
  tok : ∀ s s', Rel s s' → (tokA T' s').k = (tokA T s).k ∧ (tokA T' s').x = (tokA T s).x
  calls : ∀ s s', Rel s s' → callsS T' s' = callsS T s ∨ (callsS T s = false ∧ (tokA T s).k = 3 ∧ Lost (nextS T s))
  line : ∀ s s', Rel s s' → RL (lineS src T s) (lineS src' T' s')
  er : ∀ s s', Rel s s' → decide (s'.er = 0) = decide (s.er = 0)
  next : ∀ s s', Rel s s' → Lost (nextS T s) ∨ Rel (nextS T s) (nextS T' s')
  fail : ∀ s s' e, Rel s s' → (e = 20 ∨ e = 21) → Lost (failS T e s) ∨ Rel (failS T e s) (failS T' e s')
  dp : ∀ s s', Rel s s' → s'.dp = s.dp ∧ ∀ d, Rel { s with dp := d } { s' with dp := d }
  node : ∀ s s' k ln ln' n x l, Rel s s' → RL ln ln' → s.nd.length < 100000 → Lost { s with nd := s.nd ++ [⟨k, ln, n, x, l⟩] } ∨ (s'.nd.length < 100000 ∧ (s'.nd.length : Int) = ph (s.nd.length : Int) ∧ Rel { s with nd := s.nd ++ [⟨k, ln, n, x, l⟩] } { s' with nd := s'.nd ++ [⟨k, ln', n, x, l.map ph⟩] })
def SqAt {α β : Type} (Rel : PS → PS → Prop) (Lost : PS → Prop) (RA : α → β → Prop) (m : PM α) (m' : PM β) (s s' : PS) : Prop := ∀ r s1, m s = some (r, s1) → Lost s1 ∨ ∃ r' s1', m' s' = some (r', s1') ∧ Rel s1 s1' ∧ RA r r'
def RI (ph : Int → Int) (r r' : Int) : Prop := r' = ph r
def RLs (ph : Int → Int) (l l' : List Int) : Prop := l' = l.map ph
section
variable {src src' : List UInt8} {T T' : List Tok} {Rel : PS → PS → Prop} {Lost : PS → Prop} {ph : Int → Int} {RL : Int → Int → Prop}
theorem SqAt.bind {α β γ δ : Type} {RA : α → β → Prop} {RB : γ → δ → Prop} {m : PM α} {m' : PM β} {f : α → PM γ} {f' : β → PM δ} {s s' : PS} (h : SqAt Rel Lost RA m m' s s') (hm : ∀ a, Mono Lost (f a)) (k : ∀ a a' t t', Rel t t' → RA a a' → SqAt Rel Lost RB (f a) (f' a') t t') : SqAt Rel Lost RB (m >>= f) (m' >>= f') s s' := by
  intro r s1 e
  obtain ⟨a, t, e1, e2⟩ := bind_out e
  rcases h a t e1 with hl | ⟨a', t', h1, h2, h3⟩
  · exact .inl (hm a t r s1 hl e2)
  · rcases k a a' t t' h2 h3 r s1 e2 with hl | ⟨r', s1', h4, h5, h6⟩
    · exact .inl hl
    · exact .inr ⟨r', s1', (bind_in h1).trans h4, h5, h6⟩
theorem SqAt.ret {α β : Type} {RA : α → β → Prop} {a : α} {a' : β} {s s' : PS} (h : Rel s s') (k : RA a a') : SqAt Rel Lost RA (pure a) (pure a') s s' := by
  intro r s1 e
  have e := pure_out e
  injection e with e1 e2
  subst e1; subst e2
  exact .inr ⟨a', s', rfl, h, k⟩
theorem SqAt.asks {α β γ δ : Type} {RB : γ → δ → Prop} {g : PS → α} {g' : PS → β} {f : α → PM γ} {f' : β → PM δ} {s s' : PS} (h : SqAt Rel Lost RB (f (g s)) (f' (g' s')) s s') : SqAt Rel Lost RB (ask g >>= f) (ask g' >>= f') s s' := h
theorem SqAt.both {γ δ : Type} {RB : γ → δ → Prop} {g g' : PS → PS} {f : Unit → PM γ} {f' : Unit → PM δ} {s s' : PS} (hg : Lost (g s) ∨ Rel (g s) (g' s')) (hm : Mono Lost (f ())) (k : Rel (g s) (g' s') → SqAt Rel Lost RB (f ()) (f' ()) (g s) (g' s')) : SqAt Rel Lost RB (mod g >>= f) (mod g' >>= f') s s' := by
  intro r s1 e
  rcases hg with hl | hr
  · exact .inl (hm (g s) r s1 hl e)
  · exact k hr r s1 e
theorem isS_k3 {ts : List (List UInt8)} {s : PS} (h : (tokA T s).k = 3) : isS T ts s = false := by
  unfold isS
  rw [h]
  rfl
variable (X : Prim src src' T T' Rel Lost ph RL)
include X
theorem SqAt.deep {γ δ : Type} {RB : γ → δ → Prop} {f : Unit → PM γ} {f' : Unit → PM δ} {s s' : PS} (d : Int) (hs : Rel s s') (k : ∀ t t', Rel t t' → SqAt Rel Lost RB (f ()) (f' ()) t t') : SqAt Rel Lost RB (deepS d >>= f) (deepS d >>= f') s s' := by
  intro r s1 e
  obtain ⟨u, t, e1, e2⟩ := bind_out e
  unfold deepS at e1
  split at e1
  · rename_i hl
    injection e1 with e1
    injection e1 with e3 e4
    subst e4
    obtain ⟨h1, h2⟩ := X.dp s s' hs
    have h3 := h2 (s.dp + d)
    rcases k _ _ h3 r s1 e2 with hl2 | ⟨r', s1', h4, h5⟩
    · exact .inl hl2
    · refine .inr ⟨r', s1', ?_, h5⟩
      exact (bind_in (m := deepS d) (show deepS d s' = some ((), { s' with dp := s.dp + d }) from by rw [← h1]; exact if_pos (by rw [h1]; exact hl))).trans h4
  · cases e1
theorem SqAt.node {k n : Int} {x : List UInt8} {ln ln' : Int} {l l' : List Int} {s s' : PS} (hs : Rel s s') (hln : RL ln ln') (hl : l' = l.map ph) (d d' : List Int) : SqAt Rel Lost (RI ph) (nodeM ⟨k, ln, n, x, d⟩ l) (nodeM ⟨k, ln', n, x, d'⟩ l') s s' := by
  subst hl
  intro r s1 e
  unfold nodeM at e
  split at e
  · rename_i hb
    injection e with e
    injection e with e1 e2
    subst e1; subst e2
    rcases X.node s s' k ln ln' n x l hs hln hb with h | ⟨h1, h2, h3⟩
    · exact .inl h
    · exact .inr ⟨_, _, if_pos h1, h3, h2⟩
  · cases e
theorem rel_want {s s' : PS} (hs : Rel s s') (x : List UInt8) : Lost (wantS T x s) ∨ Rel (wantS T x s) (wantS T' x s') := by
  unfold wantS
  rw [X.is_ s s' _ hs]
  by_cases hb : isS T [x] s = true
  · rw [if_pos hb, if_pos hb]
    exact X.next s s' hs
  · rw [if_neg hb, if_neg hb]
    exact X.fail s s' 20 hs (by decide)
theorem rel_name {s s' : PS} (hs : Rel s s') : Lost (nameS T s) ∨ Rel (nameS T s) (nameS T' s') := by
  unfold nameS
  rw [(X.tok s s' hs).1]
  by_cases hb : (tokA T s).k = 3
  · rw [if_pos hb, if_pos hb]
    exact X.next s s' hs
  · rw [if_neg hb, if_neg hb]
    exact X.fail s s' 20 hs (by decide)
theorem rel_nameX {s s' : PS} (hs : Rel s s') : nameX T' s' = nameX T s := by
  unfold nameX
  rw [(X.tok s s' hs).1, (X.tok s s' hs).2]
theorem rel_open {s s' : PS} (hs : Rel s s') (x : List UInt8) : Lost (openS T x s) ∨ Rel (openS T x s) (openS T' x s') := by
  unfold openS
  rw [X.is_ s s' _ hs, (X.dp s s' hs).1]
  by_cases hb : (isS T [x] s && decide (16 ≤ s.dp)) = true
  · rw [if_pos hb, if_pos hb]
    rcases X.fail s s' 21 hs (by decide) with h | h
    · exact .inl (lost_want X.lost x _ h)
    · exact rel_want X h x
  · rw [if_neg hb, if_neg hb]
    exact rel_want X hs x
theorem SqAt.opens {γ δ : Type} {RB : γ → δ → Prop} {f : Unit → PM γ} {f' : Unit → PM δ} {s s' : PS} (hs : Rel s s') (x : List UInt8) (hm : Mono Lost (f ())) (k : ∀ t t', Rel t t' → SqAt Rel Lost RB (f ()) (f' ()) t t') : SqAt Rel Lost RB (openM T x >>= f) (openM T' x >>= f') s s' := by
  have A : (openM T x >>= f) = (mod (openS T x) >>= fun _ => deepS 1 >>= f) := bind_assoc _ _ _
  have A' : (openM T' x >>= f') = (mod (openS T' x) >>= fun _ => deepS 1 >>= f') := bind_assoc _ _ _
  rw [A, A']
  exact SqAt.both (rel_open X hs x) ((Mono.deep X.lost 1).bind fun _ => hm) (fun h => SqAt.deep X 1 h k)
theorem SqAt.shuts {γ δ : Type} {RB : γ → δ → Prop} {f : Unit → PM γ} {f' : Unit → PM δ} {s s' : PS} (hs : Rel s s') (x : List UInt8) (hm : Mono Lost (f ())) (k : ∀ t t', Rel t t' → SqAt Rel Lost RB (f ()) (f' ()) t t') : SqAt Rel Lost RB (shutM T x >>= f) (shutM T' x >>= f') s s' := by
  have A : (shutM T x >>= f) = (mod (wantS T x) >>= fun _ => deepS (-1) >>= f) := bind_assoc _ _ _
  have A' : (shutM T' x >>= f') = (mod (wantS T' x) >>= fun _ => deepS (-1) >>= f') := bind_assoc _ _ _
  rw [A, A']
  exact SqAt.both (rel_want X hs x) ((Mono.deep X.lost (-1)).bind fun _ => hm) (fun h => SqAt.deep X (-1) h k)
def SqF (X : Prim src src' T T' Rel Lost ph RL) (m m' : PM Int) : Prop := ∀ s s', Rel s s' → SqAt Rel Lost (RI ph) m m' s s'
theorem sq_inside {ex ex' : PM Int} (hx : SqF X ex ex') (hmx : Mono Lost ex) (a b : List UInt8) {s s' : PS} (hs : Rel s s') : SqAt Rel Lost (RI ph) (insideM T ex a b) (insideM T' ex' a b) s s' := by
  unfold insideM
  refine SqAt.opens X hs a (hmx.bind fun _ => (mono_shut X.lost b).bind fun _ => Mono.ret) ?_
  intro t t' ht
  refine SqAt.bind (hx t t' ht) (fun _ => (mono_shut X.lost b).bind fun _ => Mono.ret) ?_
  intro y y' u u' hu hy
  refine SqAt.shuts X hu b Mono.ret ?_
  intro v v' hv
  exact SqAt.ret hv hy
theorem sq_variable {ex ex' : PM Int} (hx : SqF X ex ex') (hmx : Mono Lost ex) {ln ln' : Int} (hln : RL ln ln') {s s' : PS} (hs : Rel s s') : SqAt Rel Lost (RI ph) (variableM T ex ln) (variableM T' ex' ln') s s' := by
  unfold variableM
  refine SqAt.asks ?_
  rw [rel_nameX X hs]
  refine SqAt.both (rel_name X hs) (Mono.ask fun _ => Mono.both ((mono_inside X.lost hmx _ _).bind fun _ => Mono.node X.lost _ _) (Mono.node X.lost _ _)) ?_
  intro ht
  refine SqAt.asks ?_
  rw [X.is_ _ _ _ ht]
  by_cases hb : isS T [[91]] (nameS T s) = true
  · rw [if_pos hb, if_pos hb]
    refine SqAt.bind (sq_inside X hx hmx _ _ ht) (fun _ => Mono.node X.lost _ _) ?_
    intro y y' u u' hu hy
    exact SqAt.node X hu hln (by rw [show y' = ph y from hy]; rfl) _ _
  · rw [if_neg hb, if_neg hb]
    exact SqAt.node X ht hln rfl _ _
theorem sq_nextnode {k n : Int} {x : List UInt8} {ln ln' : Int} (hln : RL ln ln') {s s' : PS} (hs : Rel s s') : SqAt Rel Lost (RI ph) (do mod (nextS T); nodeM ⟨k, ln, n, x, []⟩ []) (do mod (nextS T'); nodeM ⟨k, ln', n, x, []⟩ []) s s' :=
  SqAt.both (X.next s s' hs) (Mono.node X.lost _ _) (fun h => SqAt.node X h hln rfl _ _)
theorem sq_atom {ex ex' : PM Int} (hx : SqF X ex ex') (hmx : Mono Lost ex) : SqF X (atomM src T ex) (atomM src' T' ex') := by
  intro s s' hs
  unfold atomM
  refine SqAt.asks (SqAt.asks ?_)
  have hln := X.line s s' hs
  rw [(X.tok s s' hs).1, (X.tok s s' hs).2]
  by_cases h1 : (tokA T s).k = 1
  · rw [if_pos h1, if_pos h1]
    exact sq_nextnode X hln hs
  rw [if_neg h1, if_neg h1]
  by_cases h2 : (tokA T s).k = 2
  · rw [if_pos h2, if_pos h2]
    exact sq_nextnode X hln hs
  rw [if_neg h2, if_neg h2]
  refine SqAt.asks ?_
  rw [X.is_ _ _ _ hs]
  by_cases hb : isS T [[116, 114, 117, 101], [102, 97, 108, 115, 101]] s = true
  · rw [if_pos hb, if_pos hb]
    exact sq_nextnode X hln hs
  rw [if_neg hb, if_neg hb]
  refine SqAt.asks ?_
  rw [X.is_ _ _ _ hs]
  by_cases hl : isS T [[108, 101, 110]] s = true
  · rw [if_pos hl, if_pos hl]
    refine SqAt.both (X.next s s' hs) ((mono_inside X.lost hmx _ _).bind fun _ => Mono.node X.lost _ _) ?_
    intro ht
    refine SqAt.bind (sq_inside X hx hmx _ _ ht) (fun _ => Mono.node X.lost _ _) ?_
    intro y y' u u' hu hy
    exact SqAt.node X hu hln (by rw [show y' = ph y from hy]; rfl) _ _
  rw [if_neg hl, if_neg hl]
  refine SqAt.asks ?_
  rw [X.is_ _ _ _ hs]
  by_cases hp : isS T [[40]] s = true
  · rw [if_pos hp, if_pos hp]
    exact sq_inside X hx hmx _ _ hs
  rw [if_neg hp, if_neg hp]
  exact sq_variable X hx hmx hln hs
theorem sq_sign {fac fac' : PM Int} (hf : SqF X fac fac') (hmf : Mono Lost fac) (a : List UInt8) {k : Int} {ln ln' : Int} (hln : RL ln ln') {s s' : PS} (hs : Rel s s') : SqAt Rel Lost (RI ph) (do openM T a; let y ← fac; deepS (-1); nodeM ⟨k, ln, 0, [], []⟩ [y]) (do openM T' a; let y ← fac'; deepS (-1); nodeM ⟨k, ln', 0, [], []⟩ [y]) s s' := by
  refine SqAt.opens X hs a (hmf.bind fun _ => (Mono.deep X.lost _).bind fun _ => Mono.node X.lost _ _) ?_
  intro t t' ht
  refine SqAt.bind (hf t t' ht) (fun _ => (Mono.deep X.lost _).bind fun _ => Mono.node X.lost _ _) ?_
  intro y y' u u' hu hy
  refine SqAt.deep X (-1) hu ?_
  intro v v' hv
  exact SqAt.node X hv hln (by rw [show y' = ph y from hy]; rfl) _ _
theorem sq_factor {fac fac' ex ex' : PM Int} (hf : SqF X fac fac') (hmf : Mono Lost fac) (hx : SqF X ex ex') (hmx : Mono Lost ex) : SqF X (factorM src T fac ex) (factorM src' T' fac' ex') := by
  intro s s' hs
  unfold factorM
  refine SqAt.asks (SqAt.asks (SqAt.asks ?_))
  have hln := X.line s s' hs
  rw [(X.tok s s' hs).2, X.is_ _ _ _ hs]
  by_cases h1 : isS T [[33]] s = true
  · rw [if_pos h1, if_pos h1]
    exact sq_sign X hf hmf _ hln hs
  rw [if_neg h1, if_neg h1]
  refine SqAt.asks ?_
  rw [X.is_ _ _ _ hs]
  by_cases h2 : isS T [[45]] s = true
  · rw [if_pos h2, if_pos h2]
    exact sq_sign X hf hmf _ hln hs
  rw [if_neg h2, if_neg h2]
  exact sq_atom X hx hmx s s' hs
theorem sq_chain {lv : Nat} {sub sub' : PM Int} (hsub : SqF X sub sub') (hm : Mono Lost sub) {ln ln' : Int} (hln : RL ln ln') : ∀ n (x x' : Int) s s', Rel s s' → x' = ph x → SqAt Rel Lost (RI ph) (chainR T lv sub ln n x) (chainR T' lv sub' ln' n x') s s' := by
  intro n
  induction n with
  | zero => intro x x' s s' _ _ r s1 e; cases e
  | succ n ih =>
    intro x x' s s' hs hx
    unfold chainR
    refine SqAt.asks ?_
    rw [X.is_ _ _ _ hs]
    by_cases hb : isS T (signsL lv) s = true
    · rw [if_pos hb, if_pos hb]
      refine SqAt.asks ?_
      rw [(X.tok s s' hs).2]
      have hmr : ∀ z, Mono Lost (if lv = 2 then pure z else chainR T lv sub ln n z) := fun z => Mono.both Mono.ret (mono_chain X.lost hm ln n z)
      refine SqAt.both (X.next s s' hs) (hm.bind fun _ => (Mono.node X.lost _ _).bind fun _ => hmr _) ?_
      intro ht
      refine SqAt.bind (hsub _ _ ht) (fun _ => (Mono.node X.lost _ _).bind fun _ => hmr _) ?_
      intro y y' u u' hu hy
      refine SqAt.bind (SqAt.node X hu hln (by rw [show y' = ph y from hy, hx]; rfl) _ _) (fun _ => hmr _) ?_
      intro z z' v v' hv hz
      by_cases h2 : lv = 2
      · rw [if_pos h2, if_pos h2]
        exact SqAt.ret hv hz
      · rw [if_neg h2, if_neg h2]
        exact ih z z' v v' hv hz
    · rw [if_neg hb, if_neg hb]
      exact SqAt.ret hs hx
theorem sq_ex : ∀ n lv, SqF X (exM src T n lv) (exM src' T' n lv) := by
  intro n
  induction n with
  | zero => intro lv s s' _ r s1 e; cases e
  | succ n ih =>
    intro lv s s' hs
    unfold exM
    by_cases h5 : lv = 5
    · rw [if_pos h5, if_pos h5]
      exact sq_factor X (ih 5) (mono_ex X.lost n 5) (ih 0) (mono_ex X.lost n 0) s s' hs
    · rw [if_neg h5, if_neg h5]
      refine SqAt.asks ?_
      have hln := X.line s s' hs
      refine SqAt.bind (ih (lv + 1) s s' hs) (fun _ => mono_chain X.lost (mono_ex X.lost n (lv + 1)) _ _ _) ?_
      intro x x' t t' ht hx
      exact sq_chain X (ih (lv + 1)) (mono_ex X.lost n (lv + 1)) hln n x x' t t' ht hx
theorem sq_comma {ex ex' : PM Int} (hx : SqF X ex ex') (hmx : Mono Lost ex) : ∀ n (l l' : List Int) s s', Rel s s' → l' = l.map ph → SqAt Rel Lost (RLs ph) (commaR T ex n l) (commaR T' ex' n l') s s' := by
  intro n
  induction n with
  | zero => intro l l' s s' _ _ r s1 e; cases e
  | succ n ih =>
    intro l l' s s' hs hl
    unfold commaR
    refine SqAt.asks ?_
    rw [X.is_ _ _ _ hs]
    by_cases hb : isS T [[44]] s = true
    · rw [if_pos hb, if_pos hb]
      refine SqAt.both (X.next s s' hs) (hmx.bind fun _ => mono_comma X.lost hmx _ _) ?_
      intro ht
      refine SqAt.bind (hx _ _ ht) (fun _ => mono_comma X.lost hmx _ _) ?_
      intro y y' u u' hu hy
      exact ih _ _ u u' hu (by rw [hl, show y' = ph y from hy, List.map_append]; rfl)
    · rw [if_neg hb, if_neg hb]
      exact SqAt.ret hs hl
theorem sq_args {ex ex' : PM Int} (hx : SqF X ex ex') (hmx : Mono Lost ex) (N : Nat) {s s' : PS} (hs : Rel s s') : SqAt Rel Lost (RLs ph) (argsM T N ex) (argsM T' N ex') s s' := by
  unfold argsM
  refine SqAt.asks ?_
  rw [X.is_ _ _ _ hs]
  by_cases hb : isS T [[41]] s = true
  · rw [if_pos hb, if_pos hb]
    exact SqAt.ret hs rfl
  · rw [if_neg hb, if_neg hb]
    refine SqAt.bind (hx _ _ hs) (fun _ => mono_comma X.lost hmx _ _) ?_
    intro y y' u u' hu hy
    exact sq_comma X hx hmx N _ _ u u' hu (by rw [show y' = ph y from hy]; rfl)
theorem sq_call {ex ex' : PM Int} (hx : SqF X ex ex') (hmx : Mono Lost ex) (N : Nat) : SqF X (callM src T N ex) (callM src' T' N ex') := by
  intro s s' hs
  unfold callM
  refine SqAt.asks (SqAt.asks ?_)
  have hln := X.line s s' hs
  rw [rel_nameX X hs]
  have hm3 : ∀ l, Mono Lost (do mod (wantS T [41]); nodeM ⟨21, lineS src T s, 0, nameX T s, []⟩ l : PM Int) := fun l => Mono.want X.lost (Mono.node X.lost _ _)
  refine SqAt.both (rel_name X hs) (Mono.want X.lost ((mono_args X.lost hmx N).bind fun _ => hm3 _)) ?_
  intro ht
  refine SqAt.both (rel_want X ht _) ((mono_args X.lost hmx N).bind fun _ => hm3 _) ?_
  intro hu
  refine SqAt.bind (sq_args X hx hmx N hu) (fun _ => hm3 _) ?_
  intro l l' v v' hv hl
  refine SqAt.both (rel_want X hv _) (Mono.node X.lost _ _) ?_
  intro hz
  exact SqAt.node X hz hln hl _ _
theorem ex_name_lost : ∀ n lv s r s1, (tokA T s).k = 3 → Lost (nextS T s) → exM src T n lv s = some (r, s1) → Lost s1 := by
  intro n
  induction n with
  | zero => intro lv s r s1 _ _ e; cases e
  | succ n ih =>
    intro lv s r s1 hk hl e
    unfold exM at e
    by_cases h5 : lv = 5
    · rw [if_pos h5] at e
      unfold factorM at e
      have e : (if isS T [[33]] s then _ else _ : PM Int) s = some (r, s1) := e
      rw [isS_k3 hk, if_neg (by decide)] at e
      have e : (if isS T [[45]] s then _ else _ : PM Int) s = some (r, s1) := e
      rw [isS_k3 hk, if_neg (by decide)] at e
      unfold atomM at e
      have e : (if (tokA T s).k = 1 then _ else _ : PM Int) s = some (r, s1) := e
      rw [hk, if_neg (by decide), if_neg (by decide)] at e
      have e : (if isS T [[116, 114, 117, 101], [102, 97, 108, 115, 101]] s then _ else _ : PM Int) s = some (r, s1) := e
      rw [isS_k3 hk, if_neg (by decide)] at e
      have e : (if isS T [[108, 101, 110]] s then _ else _ : PM Int) s = some (r, s1) := e
      rw [isS_k3 hk, if_neg (by decide)] at e
      have e : (if isS T [[40]] s then _ else _ : PM Int) s = some (r, s1) := e
      rw [isS_k3 hk, if_neg (by decide)] at e
      unfold variableM at e
      have e : (do let b ← ask (isS T [[91]])
                   if b then (do
                     let y ← insideM T (exM src T n 0) [91] [93]
                     nodeM ⟨5, lineS src T s, 0, nameX T s, []⟩ [y])
                   else nodeM ⟨4, lineS src T s, 0, nameX T s, []⟩ [] : PM Int) (nameS T s) = some (r, s1) := e
      have hn : nameS T s = nextS T s := if_pos hk
      rw [hn] at e
      exact (Mono.ask fun _ => Mono.both ((mono_inside X.lost (mono_ex X.lost n 0) _ _).bind fun _ => Mono.node X.lost _ _) (Mono.node X.lost _ _)) _ r s1 hl e
    · rw [if_neg h5] at e
      obtain ⟨x, t, e1, e2⟩ := bind_out (show (exM src T n (lv + 1) >>= fun x => chainR T lv (exM src T n (lv + 1)) (lineS src T s) n x) s = some (r, s1) from e)
      exact mono_chain X.lost (mono_ex X.lost n (lv + 1)) _ _ _ t r s1 (ih (lv + 1) s x t hk hl e1) e2
end
end Go.Proofs.YtgelggdgbmldiaaDoor
