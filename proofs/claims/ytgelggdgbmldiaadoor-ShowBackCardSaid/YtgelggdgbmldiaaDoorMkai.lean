/-
  Layer 3: what is shown is parsed as it was: expressions (data). Written by an AI agent.
  Layer 3: what is shown is parsed as it was: all expressions (data). Written by an AI agent.
-/
import Derived.Test.YtgelggdgbmldiaaDoorMkah
namespace Go.Proofs.YtgelggdgbmldiaaDoor
set_option linter.unusedVariables false
set_option linter.unusedSimpArgs false
/-- The tokens from a place on. -/
def Rs (T : List Tok) (i : Nat) (l : List (Nat × List UInt8)) : Prop := (T.drop i).map (fun t => (t.k, t.x)) = l
theorem Rs.tok {T : List Tok} {i k : Nat} {x : List UInt8} {l : List (Nat × List UInt8)} (h : Rs T i ((k, x) :: l)) : (T.getD i default).k = k ∧ (T.getD i default).x = x ∧ i < T.length ∧ Rs T (i + 1) l := by
  unfold Rs at h ⊢
  have hi : i < T.length := by
    rcases Nat.lt_or_ge i T.length with h1 | h1
    · exact h1
    · rw [List.drop_eq_nil_of_le h1] at h; cases h
  rw [List.drop_eq_getElem_cons hi, List.map_cons] at h
  injection h with h1 h2
  injection h1 with h3 h4
  rw [List.getD, List.getElem?_eq_getElem hi]
  exact ⟨h3, h4, hi, h2⟩
theorem Rs.more {T : List Tok} {i : Nat} {l : List (Nat × List UInt8)} (h : Rs T i l) (hl : l ≠ []) : i < T.length := by
  unfold Rs at h
  rcases Nat.lt_or_ge i T.length with h1 | h1
  · exact h1
  · rw [List.drop_eq_nil_of_le h1] at h; exact absurd h.symm hl
def Er (s : PS) : Prop := s.er ≠ 0
/-- Where the parser is: the tokens left, the nodes but for lines, how deep. -/
structure Sx (T : List Tok) (N : List Nd) (D : Int) (l : List (Nat × List UInt8)) (s : PS) : Prop where
  rs : Rs T s.i l
  er : s.er = 0
  nd : s.nd.map uz = N
  dp : s.dp = D
section
variable {src : List UInt8} {T : List Tok} {N : List Nd} {D : Int} {l : List (Nat × List UInt8)} {s : PS}
theorem erq_lost : LostP T Er where
  next := fun s h => by unfold Er; rw [er_next]; exact h
  fail := fun s e h _ => by
    unfold Er failS
    rw [if_neg h]
    exact h
  dp := fun s d h => h
  node := fun s n h => h
theorem Sx.tok {k : Nat} {x : List UInt8} (h : Sx T N D ((k, x) :: l) s) : (tokA T s).k = k ∧ (tokA T s).x = x := ⟨h.rs.tok.1, h.rs.tok.2.1⟩
theorem Sx.next {k : Nat} {x : List UInt8} (h : Sx T N D ((k, x) :: l) s) (hl : l ≠ []) : Sx T N D l (nextS T s) := by
  have h1 := h.rs.tok.2.2.2
  have h2 := h1.more hl
  have e : nextS T s = { s with i := s.i + 1 } := if_pos (by omega)
  rw [e]
  exact ⟨h1, h.er, h.nd, h.dp⟩
theorem Sx.isS {k : Nat} {x : List UInt8} (h : Sx T N D ((k, x) :: l) s) (xs : List (List UInt8)) : isS T xs s = ((decide (k = 5) || decide (k = 4)) && xs.contains x) := by
  unfold Go.Proofs.YtgelggdgbmldiaaDoor.isS
  rw [h.tok.1, h.tok.2]
theorem Sx.calls {k k' : Nat} {x x' : List UInt8} (h : Sx T N D ((k, x) :: (k', x') :: l) s) : callsS T s = (decide (k = 3) && (decide (k' = 5) && decide (x' = [40]))) := by
  unfold callsS
  have h2 := h.rs.tok.2.2.2.tok
  rw [h.tok.1, h2.1, h2.2.1]
theorem Sx.want {x : List UInt8} (h : Sx T N D ((5, x) :: l) s) (hl : l ≠ []) : Sx T N D l (wantS T x s) := by
  have e : wantS T x s = nextS T s := if_pos (by rw [h.isS]; simp)
  rw [e]
  exact h.next hl
theorem Sx.want4 {x : List UInt8} (h : Sx T N D ((4, x) :: l) s) (hl : l ≠ []) : Sx T N D l (wantS T x s) := by
  have e : wantS T x s = nextS T s := if_pos (by rw [h.isS]; simp)
  rw [e]
  exact h.next hl
theorem Sx.name {x : List UInt8} (h : Sx T N D ((3, x) :: l) s) (hl : l ≠ []) : nameX T s = x ∧ Sx T N D l (nameS T s) := by
  have e : nameS T s = nextS T s := if_pos h.tok.1
  have e2 : nameX T s = (tokA T s).x := if_pos h.tok.1
  rw [e, e2]
  exact ⟨h.tok.2, h.next hl⟩
/-- Of a run: what holds behind it, or, where it is too deep, that it is lost. -/
def PQ {α : Type} (B : Prop) (m : PM α) (s : PS) (G : α → PS → Prop) : Prop := Part m s (fun x s' => G x s' ∨ (¬ B ∧ Er s'))
variable {B : Prop} {α β : Type}
theorem PQ.bind {m : PM α} {f : α → PM β} {R : α → PS → Prop} {G : β → PS → Prop} (h : PQ B m s R) (hm : ∀ x, Mono Er (f x)) (k : ∀ x s', R x s' → PQ B (f x) s' G) : PQ B (m >>= f) s G := by
  refine Part.bind h ?_
  rintro a s' (h1 | ⟨h1, h2⟩)
  · exact k a s' h1
  · exact fun x s2 e => .inr ⟨h1, hm a s' x s2 h2 e⟩
theorem PQ.ask {γ : Type} {g : PS → γ} {f : γ → PM β} {G : β → PS → Prop} (h : PQ B (f (g s)) s G) : PQ B (ask g >>= f) s G := Part.ask h
theorem PQ.mod {g : PS → PS} {f : Unit → PM β} {G : β → PS → Prop} (h : PQ B (f ()) (g s) G) : PQ B (Go.Proofs.YtgelggdgbmldiaaDoor.mod g >>= f) s G := Part.mod h
theorem PQ.ret {a : α} {G : α → PS → Prop} (h : G a s) : PQ B (pure a) s G := Part.pure (.inl h)
theorem PQ.none {G : α → PS → Prop} : PQ B (fun _ => none) s G := Part.none
theorem PQ.mono {m : PM α} {G H : α → PS → Prop} (h : PQ B m s G) (k : ∀ a s', G a s' → H a s') : PQ B m s H := Part.mono h fun a s' h => h.imp (k a s') id
theorem PQ.lost {m : PM α} {G : α → PS → Prop} (hm : Mono Er m) (hb : ¬ B) (he : Er s) : PQ B m s G := fun x s' e => .inr ⟨hb, hm s x s' he e⟩
theorem deep_q (d : Int) (h : Sx T N D l s) : PQ B (deepS d) s (fun _ s' => Sx T N (D + d) l s') := by
  intro x s' e
  unfold deepS at e
  split at e
  · cases e
    exact .inl ⟨h.rs, h.er, h.nd, by show s.dp + d = D + d; rw [h.dp]⟩
  · cases e
theorem open_q {x : List UInt8} (hB : B → D < 16) (h : Sx T N D ((5, x) :: l) s) (hl : l ≠ []) : PQ B (openM T x) s (fun _ s' => Sx T N (D + 1) l s') := by
  unfold openM
  refine PQ.mod ?_
  have hi : isS T [x] s = true := by rw [h.isS]; simp
  unfold openS
  by_cases hd : D < 16
  · rw [if_neg (by rw [hi, Bool.true_and]; have := h.dp; simp; omega)]
    exact deep_q 1 (h.want hl)
  · rw [if_pos (by rw [hi, Bool.true_and]; have := h.dp; simp; omega)]
    refine PQ.lost (Mono.deep (erq_lost (T := T)) 1) (fun b => hd (hB b)) (lost_want erq_lost x _ (er_fail (by decide) s))
theorem shut_q {x : List UInt8} (h : Sx T N (D + 1) ((5, x) :: l) s) (hl : l ≠ []) : PQ B (shutM T x) s (fun _ s' => Sx T N D l s') := by
  unfold shutM
  refine PQ.mod ?_
  have := deep_q (B := B) (-1) (h.want hl)
  rw [show D + 1 + -1 = D by omega] at this
  exact this
theorem node_q (n : Nd) (xs : List Int) (h : Sx T N D l s) : PQ B (nodeM n xs) s (fun x s' => x = ((N.length : Nat) : Int) ∧ Sx T (N ++ [⟨n.k, 0, n.n, n.s, xs⟩]) D l s') := by
  intro x s' e
  unfold nodeM at e
  split at e
  · cases e
    refine .inl ⟨by rw [← h.nd, List.length_map], h.rs, h.er, ?_, h.dp⟩
    show (s.nd ++ [{ n with l := xs }]).map uz = _
    rw [List.map_append, h.nd]
    rfl
  · cases e
/-- The tokens of pieces. -/
def tks (l : List Pc) : List (Nat × List UInt8) := l.map kx
theorem tks_app (a b : List Pc) : tks (a ++ b) = tks a ++ tks b := List.map_append
theorem tks_cons (p : Pc) (l : List Pc) : tks (p :: l) = (p.k, p.x) :: tks l := rfl
theorem tks_sg (x : List UInt8) (l : List Pc) : tks (sgn x :: l) = (5, x) :: tks l := rfl
/-- What may be behind an expression at a level. -/
def Fol (lv : Nat) (rest : List (Nat × List UInt8)) : Prop := ∃ k x r, rest = (k, x) :: r ∧ ((k = 5 ∨ k = 4) → x ≠ [91] ∧ x ≠ [40] ∧ ∀ j, lv ≤ j → j < 5 → x ∉ signsL j)
theorem Fol.ne {lv : Nat} {rest : List (Nat × List UInt8)} (h : Fol lv rest) : rest ≠ [] := by obtain ⟨k, x, r, rfl, _⟩ := h; simp
theorem Fol.up {lv lv' : Nat} {rest : List (Nat × List UInt8)} (h : Fol lv rest) (hl : lv ≤ lv') : Fol lv' rest := by
  obtain ⟨k, x, r, e, h⟩ := h
  exact ⟨k, x, r, e, fun hk => ⟨(h hk).1, (h hk).2.1, fun j h1 h2 => (h hk).2.2 j (by omega) h2⟩⟩
theorem Fol.no {lv : Nat} {rest : List (Nat × List UInt8)} (h : Fol lv rest) (hs : Sx T N D rest s) : isS T [[91]] s = false ∧ ∀ j, lv ≤ j → j < 5 → isS T (signsL j) s = false := by
  obtain ⟨k, x, r, rfl, h⟩ := h
  by_cases hk : k = 5 ∨ k = 4
  · obtain ⟨h1, h2, h3⟩ := h hk
    refine ⟨?_, fun j a b => ?_⟩
    · rw [hs.isS]
      simp [h1]
    · rw [hs.isS]
      have := h3 j a b
      simp [this]
  · have : (decide (k = 5) || decide (k = 4)) = false := by simp; omega
    exact ⟨by rw [hs.isS, this]; rfl, fun j _ _ => by rw [hs.isS, this]; rfl⟩
/-- A sign, of its own level and no other; and it may be behind what is above. -/
theorem sign_own {s : List UInt8} (h : s ∈ signs11) : lvS s < 5 ∧ s ∈ signsL (lvS s) ∧ ∀ j, lvS s < j → j < 5 → s ∉ signsL j := by
  have h0 : ∀ s ∈ signs11, lvS s < 5 ∧ s ∈ signsL (lvS s) ∧ ∀ j, j < 5 → lvS s < j → s ∉ signsL j := by decide
  obtain ⟨h1, h2, h3⟩ := h0 s h
  exact ⟨h1, h2, fun j a b => h3 j b a⟩
theorem sign_fol {x : List UInt8} (h : x ∈ signs11) (r : List (Nat × List UInt8)) : Fol (lvS x + 1) ((5, x) :: r) :=
  ⟨5, x, r, rfl, fun _ => ⟨(by decide : ∀ x ∈ signs11, x ≠ [91]) x h, (by decide : ∀ x ∈ signs11, x ≠ [40]) x h, fun j h1 h2 => (sign_own h).2.2 j (by omega) h2⟩⟩
theorem end_fol {x : List UInt8} (h : x ∈ [[41], [93], [59], [44], [123]]) (lv : Nat) (r : List (Nat × List UInt8)) : Fol lv ((5, x) :: r) := by
  have h0 : ∀ x ∈ ([[41], [93], [59], [44], [123]] : List (List UInt8)), x ≠ [91] ∧ x ≠ [40] ∧ ∀ j, j < 5 → x ∉ signsL j := by decide
  obtain ⟨h1, h2, h3⟩ := h0 x h
  exact ⟨5, x, r, rfl, fun _ => ⟨h1, h2, fun j _ b => h3 j b⟩⟩
/-- What is shown of an expression at a level is parsed as it. -/
def Full (src : List UInt8) (T : List Tok) (B : Prop) (e : Ex) (lv : Nat) : Prop := ∀ n s N D rest, (B → WE lv D e) → Fol lv rest → Sx T N D (tks (parP (decide (lvX e < lv)) (pcE e)) ++ rest) s → PQ B (exM src T n lv) s (fun x s' => x = ((N.length + kE e : Nat) : Int) ∧ Sx T (N ++ flE e N.length) D rest s')
def Chn (src : List UInt8) (T : List Tok) (B : Prop) (e : Ex) (lv : Nat) : Prop := ∀ n s N D rest (G : Int → PS → Prop), (B → WE lv D e) → Fol (lv + 1) rest → Sx T N D (tks (pcE e) ++ rest) s → (∀ m n' ln s', Sx T (N ++ flE e N.length) D rest s' → PQ B (chainR T lv (exM src T n' (lv + 1)) ln m ((N.length + kE e : Nat) : Int)) s' G) → PQ B (exM src T n lv) s G
theorem par_no (l : List Pc) {a b : Nat} (h : ¬ a < b) : parP (decide (a < b)) l = l := by unfold parP; rw [decide_eq_false h]; rfl
theorem par_yes (l : List Pc) {a b : Nat} (h : a < b) : parP (decide (a < b)) l = sgn [40] :: (l ++ [sgn [41]]) := by unfold parP; rw [decide_eq_true h]; rfl
theorem tks_par {l : List Pc} (rest : List (Nat × List UInt8)) : tks (sgn [40] :: (l ++ [sgn [41]])) ++ rest = (5, [40]) :: (tks l ++ (5, [41]) :: rest) := by
  rw [tks_sg, tks_app]
  simp [tks_sg, tks]
  rfl
/-- From a level to the one below it. -/
theorem desc {e : Ex} {lv : Nat} (hlv : lv < 5) (hne : lvX e ≠ lv) (h : Full src T B e (lv + 1)) : Full src T B e lv := by
  intro n s N D rest hB hF hS
  cases n with
  | zero => exact PQ.none
  | succ n =>
    unfold exM
    rw [if_neg (by omega)]
    refine PQ.ask ?_
    have hWE : B → WE (lv + 1) D e := fun b => by
      have h1 := hB b
      cases e with
      | int n => exact h1
      | bool b => exact h1
      | text s => exact h1
      | var s => exact h1
      | index s a => exact h1
      | len a => exact h1
      | neg a => exact h1
      | not a => exact h1
      | bin x a b =>
        have hne : lvS x ≠ lv := hne
        refine ⟨h1.1, ?_⟩
        have h2 := h1.2
        by_cases hc : lvS x < lv
        · rw [if_pos hc] at h2
          rw [if_pos (by omega)]
          exact h2
        · rw [if_neg hc] at h2
          rw [if_neg (by omega)]
          exact h2
    have e1 : decide (lvX e < lv) = decide (lvX e < lv + 1) := by
      by_cases hc : lvX e < lv
      · rw [decide_eq_true hc, decide_eq_true (show lvX e < lv + 1 by omega)]
      · rw [decide_eq_false hc, decide_eq_false (show ¬ lvX e < lv + 1 by omega)]
    rw [e1] at hS
    refine PQ.bind (h n s N D rest hWE (hF.up (by omega)) hS) (fun x => mono_chain erq_lost (mono_ex erq_lost _ _) _ _ _) ?_
    rintro x s' ⟨rfl, h2⟩
    cases n with
    | zero => exact PQ.none
    | succ n =>
      unfold chainR
      refine PQ.ask ?_
      rw [(hF.no h2).2 lv (Nat.le_refl _) hlv, if_neg (by decide)]
      exact PQ.ret ⟨rfl, h2⟩
theorem down_to {e : Ex} : ∀ (d lv : Nat), lv + d ≤ 5 → (∀ j, lv ≤ j → j < lv + d → lvX e ≠ j) → Full src T B e (lv + d) → Full src T B e lv
  | 0, lv, _, _, h => h
  | d + 1, lv, h1, h2, h => desc (by omega) (h2 lv (Nat.le_refl _) (by omega)) (down_to d (lv + 1) (by omega) (fun j a b => h2 j (by omega) (by omega)) (by rw [show lv + 1 + d = lv + (d + 1) by omega]; exact h))
/-- Between two signs. -/
theorem inside_q {e : Ex} (h : Full src T B e 0) {n : Nat} {a b : List UInt8} {rest : List (Nat × List UInt8)} (hB : B → D < 16 ∧ WE 0 (D + 1) e) (hb : b ∈ [[41], [93], [59], [44], [123]]) (hr : rest ≠ []) (hS : Sx T N D ((5, a) :: (tks (pcE e) ++ (5, b) :: rest)) s) : PQ B (insideM T (exM src T n 0) a b) s (fun x s' => x = ((N.length + kE e : Nat) : Int) ∧ Sx T (N ++ flE e N.length) D rest s') := by
  unfold insideM
  refine PQ.bind (open_q (fun b => (hB b).1) hS (by simp)) (fun _ => (mono_ex erq_lost _ _).bind fun _ => (mono_shut erq_lost _).bind fun _ => Mono.ret) ?_
  intro _ s1 h1
  refine PQ.bind (h n s1 N (D + 1) _ (fun b => (hB b).2) (end_fol hb 0 rest) (by rw [par_no _ (by omega)]; exact h1)) (fun _ => (mono_shut erq_lost _).bind fun _ => Mono.ret) ?_
  rintro x s2 ⟨rfl, h2⟩
  refine PQ.bind (shut_q h2 hr) (fun _ => Mono.ret) ?_
  intro _ s3 h3
  exact PQ.ret ⟨rfl, h3⟩
/-- In parentheses. -/
theorem full_par {e : Ex} (h : Full src T B e 0) (hlt : lvX e < 5) (hW : ∀ D lv, lvX e < lv → WE lv D e → D < 16 ∧ WE 0 (D + 1) e) : Full src T B e 5 := by
  intro n s N D rest hB hF hS
  rw [par_yes _ hlt, tks_par] at hS
  cases n with
  | zero => exact PQ.none
  | succ n =>
    unfold exM
    rw [if_pos rfl]
    unfold factorM
    refine PQ.ask ?_
    refine PQ.ask ?_
    refine PQ.ask ?_
    rw [hS.isS, if_neg (by decide)]
    refine PQ.ask ?_
    rw [hS.isS, if_neg (by decide)]
    unfold atomM
    refine PQ.ask ?_
    refine PQ.ask ?_
    rw [if_neg (by rw [hS.tok.1]; decide), if_neg (by rw [hS.tok.1]; decide)]
    refine PQ.ask ?_
    rw [hS.isS, if_neg (by decide)]
    refine PQ.ask ?_
    rw [hS.isS, if_neg (by decide)]
    refine PQ.ask ?_
    rw [hS.isS, if_pos (by decide)]
    exact inside_q h (fun b => hW D 5 hlt (hB b)) (by decide) hF.ne hS
/-- What is no chain: a factor. -/
theorem full_fac {e : Ex} (hx : 5 ≤ lvX e) (h : ∀ n s N D rest, (B → WE 5 D e) → Fol 5 rest → Sx T N D (tks (pcE e) ++ rest) s → PQ B (factorM src T (exM src T n 5) (exM src T n 0)) s (fun x s' => x = ((N.length + kE e : Nat) : Int) ∧ Sx T (N ++ flE e N.length) D rest s')) : ∀ lv, lv ≤ 5 → Full src T B e lv := by
  have h5 : Full src T B e 5 := by
    intro n s N D rest hB hF hS
    rw [par_no _ (by omega)] at hS
    cases n with
    | zero => exact PQ.none
    | succ n =>
      unfold exM
      rw [if_pos rfl]
      exact h n s N D rest hB hF hS
  intro lv hlv
  exact down_to (5 - lv) lv (by omega) (fun j _ _ => by omega) (by rw [show lv + (5 - lv) = 5 by omega]; exact h5)
theorem fac_atom {n : Nat} {k : Nat} {x : List UInt8} {G : Int → PS → Prop} (hS : Sx T N D ((k, x) :: l) s) (hk : k ≠ 5 ∨ (x ≠ [33] ∧ x ≠ [45])) (hw : x ≠ [33] ∧ x ≠ [45] ∨ k ≠ 4) (h : PQ B (atomM src T (exM src T n 0)) s G) : PQ B (factorM src T (exM src T n 5) (exM src T n 0)) s G := by
  have h1 : ∀ y : List UInt8, (y = [33] ∨ y = [45]) → isS T [y] s = false := by
    intro y hy
    rw [hS.isS]
    by_cases h5 : k = 5
    · have h2 : x ≠ [33] ∧ x ≠ [45] := by rcases hk with h | h; exact absurd h5 h; exact h
      rcases hy with rfl | rfl
      · simp [h2.1]
      · simp [h2.2]
    · by_cases h4 : k = 4
      · have h2 : x ≠ [33] ∧ x ≠ [45] := by rcases hw with h | h; exact h; exact absurd h4 h
        rcases hy with rfl | rfl
        · simp [h2.1]
        · simp [h2.2]
      · simp [h5, h4]
  unfold factorM
  refine PQ.ask ?_
  refine PQ.ask ?_
  refine PQ.ask ?_
  rw [h1 [33] (.inl rfl), if_neg (by decide)]
  refine PQ.ask ?_
  rw [h1 [45] (.inr rfl), if_neg (by decide)]
  exact h
theorem len_E (N : List Nd) (e : Ex) : (N ++ flE e N.length).length = N.length + kE e + 1 := app_nil_len N e
/-- Behind a chain's beginning of its level: a sign, and what is on its right. -/
theorem chain_step {a b : Ex} {x : List UInt8} (hx : x ∈ signs11) (hb : Full src T B b (lvS x + 1)) {n' : Nat} {ln : Int} {m : Nat} {rest : List (Nat × List UInt8)} {G : Int → PS → Prop} (hB : B → WE (lvS x + 1) D b) (hF : Fol (lvS x + 1) rest)
    (hS : Sx T (N ++ flE a N.length) D ((5, x) :: (tks (parP (decide (lvX b < lvS x + 1)) (pcE b)) ++ rest)) s)
    (hG : ∀ m s', Sx T (N ++ flE (.bin x a b) N.length) D rest s' → PQ B (if lvS x = 2 then pure ((N.length + kE (.bin x a b) : Nat) : Int) else chainR T (lvS x) (exM src T n' (lvS x + 1)) ln m ((N.length + kE (.bin x a b) : Nat) : Int)) s' G) :
    PQ B (chainR T (lvS x) (exM src T n' (lvS x + 1)) ln m ((N.length + kE a : Nat) : Int)) s G := by
  obtain ⟨h5, hin, hno⟩ := sign_own hx
  cases m with
  | zero => exact PQ.none
  | succ m =>
    unfold chainR
    refine PQ.ask ?_
    rw [hS.isS, if_pos (by simp [hin])]
    refine PQ.ask ?_
    rw [hS.tok.2]
    refine PQ.mod ?_
    have hne : tks (parP (decide (lvX b < lvS x + 1)) (pcE b)) ++ rest ≠ [] := by
      have := hF.ne
      intro h
      exact this (List.append_eq_nil_iff.1 h).2
    have h1 := hS.next hne
    have hmono : ∀ y : Int, Mono Er ((nodeM ⟨9, ln, 0, x, []⟩ [((N.length + kE a : Nat) : Int), y]) >>= fun z => if lvS x = 2 then pure z else chainR T (lvS x) (exM src T n' (lvS x + 1)) ln m z) := fun y => (Mono.node (erq_lost (T := T)) _ _).bind fun z => Mono.both Mono.ret (mono_chain erq_lost (mono_ex erq_lost _ _) _ _ _)
    refine PQ.bind (hb n' _ _ _ rest hB hF h1) hmono ?_
    rintro y s2 ⟨rfl, h2⟩
    refine PQ.bind (node_q _ _ h2) (fun z => Mono.both Mono.ret (mono_chain erq_lost (mono_ex erq_lost _ _) _ _ _)) ?_
    rintro z s3 ⟨rfl, h3⟩
    have e1 : (((N ++ flE a N.length ++ flE b (N ++ flE a N.length).length).length : Nat) : Int) = ((N.length + kE (.bin x a b) : Nat) : Int) := by
      rw [List.length_append, len_E, flE_len]
      show ((_ : Nat) : Int) = ((N.length + (kE a + 1 + (kE b + 1)) : Nat) : Int)
      congr 1
      omega
    rw [e1]
    refine hG m s3 ?_
    rw [len_E] at h3
    have e2 : N ++ flE (.bin x a b) N.length = N ++ flE a N.length ++ flE b (N.length + kE a + 1) ++ [⟨9, 0, 0, x, [((N.length + kE a : Nat) : Int), ((N.length + kE a + 1 + kE b : Nat) : Int)]⟩] := by
      show N ++ (flE a N.length ++ flE b (N.length + kE a + 1) ++ [_]) = _
      simp only [List.append_assoc]
    rw [e2]
    exact h3
end
end Go.Proofs.YtgelggdgbmldiaaDoor

namespace Go.Proofs.YtgelggdgbmldiaaDoor
set_option linter.unusedVariables false
set_option linter.unusedSimpArgs false
section
variable {src : List UInt8} {T : List Tok} {N : List Nd} {D : Int} {l : List (Nat × List UInt8)} {s : PS} {B : Prop}
theorem WE_up {e : Ex} {lv : Nat} {D : Int} (hne : lvX e ≠ lv) (h1 : WE lv D e) : WE (lv + 1) D e := by
  cases e with
  | int n => exact h1
  | bool b => exact h1
  | text s => exact h1
  | var s => exact h1
  | index s a => exact h1
  | len a => exact h1
  | neg a => exact h1
  | not a => exact h1
  | bin x a b =>
    have hne : lvS x ≠ lv := hne
    refine ⟨h1.1, ?_⟩
    have h2 := h1.2
    by_cases hc : lvS x < lv
    · rw [if_pos hc] at h2
      rw [if_pos (by omega)]
      exact h2
    · rw [if_neg hc] at h2
      rw [if_neg (by omega)]
      exact h2
theorem chn_full {e : Ex} {lv : Nat} (h : Full src T B e (lv + 1)) (hlv : lv < lvX e) (h5 : lv < 5) : Chn src T B e lv := by
  intro n s N D rest G hB hF hS hG
  cases n with
  | zero => exact PQ.none
  | succ n =>
    unfold exM
    rw [if_neg (by omega)]
    refine PQ.ask ?_
    refine PQ.bind (h n s N D rest (fun b => WE_up (by omega) (hB b)) hF (by rw [par_no _ (by omega)]; exact hS)) (fun x => mono_chain erq_lost (mono_ex erq_lost _ _) _ _ _) ?_
    rintro x s' ⟨rfl, h2⟩
    exact hG _ _ _ _ h2
theorem nd_end {n : Nd} {xs : List Int} {e : Ex} {rest : List (Nat × List UInt8)} {s : PS} (h : Sx T N D rest s) (h1 : N ++ flE e N.length = N ++ [⟨n.k, 0, n.n, n.s, xs⟩]) (h2 : kE e = 0) : PQ B (nodeM n xs) s (fun x s' => x = ((N.length + kE e : Nat) : Int) ∧ Sx T (N ++ flE e N.length) D rest s') :=
  (node_q n xs h).mono fun x s' ⟨h3, h4⟩ => ⟨by rw [h3, h2]; rfl, by rw [h1]; exact h4⟩
theorem nd_one {n : Nd} {a e : Ex} {rest : List (Nat × List UInt8)} {s : PS} (h : Sx T (N ++ flE a N.length) D rest s) (h1 : flE e N.length = flE a N.length ++ [⟨n.k, 0, n.n, n.s, [((N.length + kE a : Nat) : Int)]⟩]) (h2 : kE e = kE a + 1) : PQ B (nodeM n [((N.length + kE a : Nat) : Int)]) s (fun x s' => x = ((N.length + kE e : Nat) : Int) ∧ Sx T (N ++ flE e N.length) D rest s') :=
  (node_q n _ h).mono fun x s' ⟨h3, h4⟩ => ⟨by rw [h3, h2, len_E]; rfl, by rw [h1, ← List.append_assoc]; exact h4⟩
theorem nameq_no {k : Nat} {x : List UInt8} (hk : k ≠ 5 ∧ k ≠ 4) (hS : Sx T N D ((k, x) :: l) s) (xs : List (List UInt8)) : isS T xs s = false := by
  rw [hS.isS, decide_eq_false hk.1, decide_eq_false hk.2]
  rfl
theorem ex_full : ∀ e : Ex, (∃ lv d, WE lv d e) → (∀ lv, lv ≤ 5 → Full src T B e lv) ∧ ∀ lv, lv < 5 → lv ≠ 2 → lv ≤ lvX e → Chn src T B e lv := by
  have fin : ∀ e : Ex, 5 ≤ lvX e → (∀ lv, lv ≤ 5 → Full src T B e lv) → (∀ lv, lv ≤ 5 → Full src T B e lv) ∧ ∀ lv, lv < 5 → lv ≠ 2 → lv ≤ lvX e → Chn src T B e lv :=
    fun e h5 h => ⟨h, fun lv h1 _ _ => chn_full (h (lv + 1) (by omega)) (by omega) h1⟩
  intro e
  induction e with
  | int n =>
    rintro ⟨_, _, hw⟩
    refine fin _ (by simp [lvX]) (full_fac (by simp [lvX]) ?_)
    intro n' s N D rest _ hF hS
    have hS : Sx T N D ((1, Lib.itoa n) :: rest) s := hS
    refine fac_atom hS (.inl (by decide)) (.inr (by decide)) ?_
    unfold atomM
    refine PQ.ask ?_
    refine PQ.ask ?_
    rw [if_pos hS.tok.1, hS.tok.2, (itoa_tok hw.1 hw.2).2]
    exact PQ.mod (nd_end (hS.next hF.ne) rfl rfl)
  | text x =>
    rintro ⟨_, _, hw⟩
    refine fin _ (by simp [lvX]) (full_fac (by simp [lvX]) ?_)
    intro n' s N D rest _ hF hS
    have hS : Sx T N D ((2, x) :: rest) s := hS
    refine fac_atom hS (.inl (by decide)) (.inr (by decide)) ?_
    unfold atomM
    refine PQ.ask ?_
    refine PQ.ask ?_
    rw [if_neg (by rw [hS.tok.1]; decide), if_pos hS.tok.1, hS.tok.2]
    exact PQ.mod (nd_end (hS.next hF.ne) rfl rfl)
  | bool b =>
    rintro ⟨_, _, hw⟩
    refine fin _ (by simp [lvX]) (full_fac (by simp [lvX]) ?_)
    intro n' s N D rest _ hF hS
    have hS : Sx T N D ((4, if b then [116, 114, 117, 101] else [102, 97, 108, 115, 101]) :: rest) s := hS
    refine fac_atom hS (.inl (by decide)) (.inl (by cases b <;> decide)) ?_
    unfold atomM
    refine PQ.ask ?_
    refine PQ.ask ?_
    rw [if_neg (by rw [hS.tok.1]; decide), if_neg (by rw [hS.tok.1]; decide)]
    refine PQ.ask ?_
    rw [hS.isS, if_pos (by cases b <;> decide), hS.tok.2]
    exact PQ.mod (nd_end (hS.next hF.ne) (by cases b <;> rfl) rfl)
  | var x =>
    rintro ⟨_, _, hw⟩
    refine fin _ (by simp [lvX]) (full_fac (by simp [lvX]) ?_)
    intro n' s N D rest _ hF hS
    have hS : Sx T N D ((3, x) :: rest) s := hS
    refine fac_atom hS (.inl (by decide)) (.inr (by decide)) ?_
    unfold atomM
    refine PQ.ask ?_
    refine PQ.ask ?_
    rw [if_neg (by rw [hS.tok.1]; decide), if_neg (by rw [hS.tok.1]; decide)]
    refine PQ.ask ?_
    rw [nameq_no (by decide) hS, if_neg (by decide)]
    refine PQ.ask ?_
    rw [nameq_no (by decide) hS, if_neg (by decide)]
    refine PQ.ask ?_
    rw [nameq_no (by decide) hS, if_neg (by decide)]
    obtain ⟨h1, h2⟩ := hS.name hF.ne
    unfold variableM
    refine PQ.ask ?_
    rw [h1]
    refine PQ.mod ?_
    refine PQ.ask ?_
    rw [(hF.no h2).1, if_neg (by decide)]
    exact nd_end h2 rfl rfl
  | index x a ih =>
    rintro ⟨_, _, hw⟩
    have ha := (ih ⟨_, _, hw.2.2⟩).1
    refine fin _ (by simp [lvX]) (full_fac (by simp [lvX]) ?_)
    intro n' s N D rest hB hF hS
    have hS : Sx T N D ((3, x) :: (5, [91]) :: (tks (pcE a) ++ (5, [93]) :: rest)) s := by
      have : tks (pcE (.index x a)) ++ rest = (3, x) :: (5, [91]) :: (tks (pcE a) ++ (5, [93]) :: rest) := by
        show (3, x) :: (5, [91]) :: (tks (pcE a ++ [sgn [93]]) ++ rest) = _
        rw [tks_app, List.append_assoc]
        rfl
      rw [← this]
      exact hS
    refine fac_atom hS (.inl (by decide)) (.inr (by decide)) ?_
    unfold atomM
    refine PQ.ask ?_
    refine PQ.ask ?_
    rw [if_neg (by rw [hS.tok.1]; decide), if_neg (by rw [hS.tok.1]; decide)]
    refine PQ.ask ?_
    rw [nameq_no (by decide) hS, if_neg (by decide)]
    refine PQ.ask ?_
    rw [nameq_no (by decide) hS, if_neg (by decide)]
    refine PQ.ask ?_
    rw [nameq_no (by decide) hS, if_neg (by decide)]
    obtain ⟨h1, h2⟩ := hS.name (by simp)
    unfold variableM
    refine PQ.ask ?_
    rw [h1]
    refine PQ.mod ?_
    refine PQ.ask ?_
    rw [h2.isS, if_pos (by decide)]
    refine PQ.bind (inside_q (ha 0 (by omega)) (fun b => (hB b).2) (by decide) hF.ne h2) (fun _ => Mono.node (erq_lost (T := T)) _ _) ?_
    rintro y s2 ⟨rfl, h3⟩
    exact nd_one h3 rfl rfl
  | len a ih =>
    rintro ⟨_, _, hw⟩
    have ha := (ih ⟨_, _, hw.2⟩).1
    refine fin _ (by simp [lvX]) (full_fac (by simp [lvX]) ?_)
    intro n' s N D rest hB hF hS
    have hS : Sx T N D ((4, [108, 101, 110]) :: (5, [40]) :: (tks (pcE a) ++ (5, [41]) :: rest)) s := by
      have : tks (pcE (.len a)) ++ rest = (4, [108, 101, 110]) :: (5, [40]) :: (tks (pcE a) ++ (5, [41]) :: rest) := by
        show (4, [108, 101, 110]) :: (5, [40]) :: (tks (pcE a ++ [sgn [41]]) ++ rest) = _
        rw [tks_app, List.append_assoc]
        rfl
      rw [← this]
      exact hS
    refine fac_atom hS (.inl (by decide)) (.inl (by decide)) ?_
    unfold atomM
    refine PQ.ask ?_
    refine PQ.ask ?_
    rw [if_neg (by rw [hS.tok.1]; decide), if_neg (by rw [hS.tok.1]; decide)]
    refine PQ.ask ?_
    rw [hS.isS, if_neg (by decide)]
    refine PQ.ask ?_
    rw [hS.isS, if_pos (by decide)]
    refine PQ.mod ?_
    refine PQ.bind (inside_q (ha 0 (by omega)) hB (by decide) hF.ne (hS.next (by simp))) (fun _ => Mono.node (erq_lost (T := T)) _ _) ?_
    rintro y s2 ⟨rfl, h3⟩
    exact nd_one h3 rfl rfl
  | neg a ih =>
    rintro ⟨_, _, hw⟩
    have ha := (ih ⟨_, _, hw.2⟩).1
    refine fin _ (by simp [lvX]) (full_fac (by simp [lvX]) ?_)
    intro n' s N D rest hB hF hS
    have hS : Sx T N D ((5, [45]) :: (tks (parP (decide (lvX a < 5)) (pcE a)) ++ rest)) s := hS
    unfold factorM
    refine PQ.ask ?_
    refine PQ.ask ?_
    refine PQ.ask ?_
    rw [hS.isS, if_neg (by decide)]
    refine PQ.ask ?_
    rw [hS.isS, if_pos (by decide), hS.tok.2]
    refine PQ.bind (open_q (fun b => (hB b).1) hS (fun h => hF.ne (List.append_eq_nil_iff.1 h).2)) (fun _ => (mono_ex erq_lost _ _).bind fun _ => (Mono.deep (erq_lost (T := T)) _).bind fun _ => Mono.node (erq_lost (T := T)) _ _) ?_
    intro _ s1 h1
    refine PQ.bind (ha 5 (by omega) n' s1 N (D + 1) rest (fun b => (hB b).2) hF h1) (fun _ => (Mono.deep (erq_lost (T := T)) _).bind fun _ => Mono.node (erq_lost (T := T)) _ _) ?_
    rintro y s2 ⟨rfl, h2⟩
    refine PQ.bind (deep_q (-1) h2) (fun _ => Mono.node (erq_lost (T := T)) _ _) ?_
    intro _ s3 h3
    rw [show D + 1 + -1 = D by omega] at h3
    exact nd_one h3 rfl rfl
  | not a ih =>
    rintro ⟨_, _, hw⟩
    have ha := (ih ⟨_, _, hw.2⟩).1
    refine fin _ (by simp [lvX]) (full_fac (by simp [lvX]) ?_)
    intro n' s N D rest hB hF hS
    have hS : Sx T N D ((5, [33]) :: (tks (parP (decide (lvX a < 5)) (pcE a)) ++ rest)) s := hS
    unfold factorM
    refine PQ.ask ?_
    refine PQ.ask ?_
    refine PQ.ask ?_
    rw [hS.isS, if_pos (by decide), hS.tok.2]
    refine PQ.bind (open_q (fun b => (hB b).1) hS (fun h => hF.ne (List.append_eq_nil_iff.1 h).2)) (fun _ => (mono_ex erq_lost _ _).bind fun _ => (Mono.deep (erq_lost (T := T)) _).bind fun _ => Mono.node (erq_lost (T := T)) _ _) ?_
    intro _ s1 h1
    refine PQ.bind (ha 5 (by omega) n' s1 N (D + 1) rest (fun b => (hB b).2) hF h1) (fun _ => (Mono.deep (erq_lost (T := T)) _).bind fun _ => Mono.node (erq_lost (T := T)) _ _) ?_
    rintro y s2 ⟨rfl, h2⟩
    refine PQ.bind (deep_q (-1) h2) (fun _ => Mono.node (erq_lost (T := T)) _ _) ?_
    intro _ s3 h3
    rw [show D + 1 + -1 = D by omega] at h3
    exact nd_one h3 rfl rfl
  | bin x a b iha ihb =>
    rintro ⟨_, _, hx, hw⟩
    have hs : (∃ lv d, WE lv d a) ∧ ∃ lv d, WE lv d b := by
      split at hw
      · exact ⟨⟨_, _, hw.2.1⟩, ⟨_, _, hw.2.2⟩⟩
      · exact ⟨⟨_, _, hw.1⟩, ⟨_, _, hw.2⟩⟩
    obtain ⟨ha, hac⟩ := iha hs.1
    obtain ⟨hb, _⟩ := ihb hs.2
    obtain ⟨h5, hin, hno⟩ := sign_own hx
    have hlv : lvX (.bin x a b) = lvS x := rfl
    -- the beginning of the chain
    have entry : ∀ n s N D rest (G : Int → PS → Prop), (B → WE (if lvS x = 2 then 3 else lvS x) D a) → Fol (lvS x + 1) rest → Sx T N D (tks (parP (decide (lvX a < lft (lvS x))) (pcE a)) ++ rest) s → (∀ m n' ln s', Sx T (N ++ flE a N.length) D rest s' → PQ B (chainR T (lvS x) (exM src T n' (lvS x + 1)) ln m ((N.length + kE a : Nat) : Int)) s' G) → PQ B (exM src T n (lvS x)) s G := by
      intro n s N D rest G hB hF hS hG
      by_cases hc : lvS x = 2 ∨ lvX a < lvS x
      · cases n with
        | zero => exact PQ.none
        | succ n =>
          unfold exM
          rw [if_neg (by omega)]
          refine PQ.ask ?_
          have e1 : decide (lvX a < lft (lvS x)) = decide (lvX a < lvS x + 1) := by
            unfold lft
            rcases hc with hc | hc
            · rw [if_pos hc, hc]
            · split
              · rename_i h2; rw [h2]
              · rw [decide_eq_true hc, decide_eq_true (show lvX a < lvS x + 1 by omega)]
          rw [e1] at hS
          refine PQ.bind (ha (lvS x + 1) (by omega) n s N D rest (fun b => by
            have h1 := hB b
            rcases hc with hc | hc
            · rw [if_pos hc] at h1; rw [hc]; exact h1
            · by_cases h2 : lvS x = 2
              · rw [if_pos h2] at h1; rw [h2]; exact h1
              · rw [if_neg h2] at h1; exact WE_up (by omega) h1) hF hS) (fun x => mono_chain erq_lost (mono_ex erq_lost _ _) _ _ _) ?_
          rintro y s' ⟨rfl, h2⟩
          exact hG _ _ _ _ h2
      · have hc1 : lvS x ≠ 2 := fun h => hc (.inl h)
        have hc2 : lvS x ≤ lvX a := by
          rcases Nat.lt_or_ge (lvX a) (lvS x) with h | h
          · exact absurd (.inr h) hc
          · exact h
        refine hac (lvS x) h5 hc1 hc2 n s N D rest G (fun b => by have := hB b; rw [if_neg hc1] at this; exact this) hF ?_ hG
        have e1 : lft (lvS x) = lvS x := if_neg hc1
        rw [e1, par_no _ (by omega)] at hS
        exact hS
    have toks : ∀ rest, tks (pcE (.bin x a b)) ++ rest = tks (parP (decide (lvX a < lft (lvS x))) (pcE a)) ++ (5, x) :: (tks (parP (decide (lvX b < lvS x + 1)) (pcE b)) ++ rest) := by
      intro rest
      show tks (parP (decide (lvX a < lft (lvS x))) (pcE a) ++ sgn x :: parP (decide (lvX b < lvS x + 1)) (pcE b)) ++ rest = _
      rw [tks_app, List.append_assoc]
      rfl
    have sides : ∀ D, WE (lvS x) D (.bin x a b) → WE (if lvS x = 2 then 3 else lvS x) D a ∧ WE (lvS x + 1) D b := by
      intro D h
      have h1 := h.2
      rw [if_neg (by omega)] at h1
      exact h1
    have bare : Full src T B (.bin x a b) (lvS x) := by
      intro n s N D rest hB hF hS
      rw [hlv, par_no _ (by omega), toks] at hS
      refine entry n s N D _ _ (fun b => (sides D (hB b)).1) (sign_fol hx _) hS ?_
      intro m n' ln s' h1
      refine chain_step hx (hb (lvS x + 1) (by omega)) (fun b => (sides D (hB b)).2) (hF.up (by omega)) h1 ?_
      intro m s3 h3
      by_cases h2 : lvS x = 2
      · rw [if_pos h2]
        exact PQ.ret ⟨rfl, h3⟩
      · rw [if_neg h2]
        cases m with
        | zero => exact PQ.none
        | succ m =>
          unfold chainR
          refine PQ.ask ?_
          rw [(hF.no h3).2 _ (Nat.le_refl _) h5, if_neg (by decide)]
          exact PQ.ret ⟨rfl, h3⟩
    have low : ∀ lv, lv ≤ lvS x → Full src T B (.bin x a b) lv := fun lv h => down_to (lvS x - lv) lv (by omega) (fun j _ _ => by rw [hlv]; omega) (by rw [show lv + (lvS x - lv) = lvS x by omega]; exact bare)
    have par : Full src T B (.bin x a b) 5 := full_par (low 0 (by omega)) (by rw [hlv]; exact h5) (fun D lv h1 h2 => by
      have h3 := h2.2
      rw [if_pos (by rw [hlv] at h1; exact h1)] at h3
      exact ⟨h3.1, h2.1, by rw [if_neg (by omega)]; exact h3.2⟩)
    have all : ∀ lv, lv ≤ 5 → Full src T B (.bin x a b) lv := by
      intro lv h
      by_cases hc : lv ≤ lvS x
      · exact low lv hc
      · exact down_to (5 - lv) lv (by omega) (fun j _ _ => by rw [hlv]; omega) (by rw [show lv + (5 - lv) = 5 by omega]; exact par)
    refine ⟨all, fun lv h1 h2 h3 => ?_⟩
    by_cases hc : lv = lvS x
    · subst hc
      intro n s N D rest G hB hF hS hG
      rw [toks] at hS
      refine entry n s N D _ _ (fun b => (sides D (hB b)).1) (sign_fol hx _) hS ?_
      intro m n' ln s' h4
      refine chain_step hx (hb (lvS x + 1) (by omega)) (fun b => (sides D (hB b)).2) hF h4 ?_
      intro m s3 h6
      rw [if_neg h2]
      exact hG m n' ln s3 h6
    · exact chn_full (all (lv + 1) (by omega)) (by rw [hlv] at h3 ⊢; omega) h1
end
end Go.Proofs.YtgelggdgbmldiaaDoor
