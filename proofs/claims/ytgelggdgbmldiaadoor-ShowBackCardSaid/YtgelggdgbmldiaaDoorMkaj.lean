/-
  Layer 3: what is shown is parsed as it was: statements, functions (data). Written by an AI agent.
-/
import Derived.Test.YtgelggdgbmldiaaDoorMkai
namespace Go.Proofs.YtgelggdgbmldiaaDoor
set_option linter.unusedVariables false
set_option linter.unusedSimpArgs false
section
variable {src : List UInt8} {T : List Tok} {N : List Nd} {D : Int} {l : List (Nat × List UInt8)} {s : PS} {B : Prop}
/-- No parenthesis ahead. -/
def NC (rest : List (Nat × List UInt8)) : Prop := ∃ k x r, rest = (k, x) :: r ∧ ¬ (k = 5 ∧ x = [40])
theorem Fol.nc {lv : Nat} {rest : List (Nat × List UInt8)} (h : Fol lv rest) : NC rest := by
  obtain ⟨k, x, r, e, h⟩ := h
  exact ⟨k, x, r, e, fun ⟨h1, h2⟩ => (h (.inl h1)).2.1 h2⟩
def startX : List (List UInt8) := [[40], [45], [33], [116, 114, 117, 101], [102, 97, 108, 115, 101], [108, 101, 110]]
def First (l : List (Nat × List UInt8)) : Prop := ∃ k x k' x' r, l = (k, x) :: (k', x') :: r ∧ ((k = 5 ∨ k = 4) → x ∈ startX) ∧ (k = 3 → ¬ (k' = 5 ∧ x' = [40]))
theorem first_of {k : Nat} {x : List UInt8} {rest : List (Nat × List UInt8)} (h : NC rest) (h1 : (k = 5 ∨ k = 4) → x ∈ startX) : First ((k, x) :: rest) := by
  obtain ⟨k', x', r, rfl, h2⟩ := h
  exact ⟨k, x, k', x', r, rfl, h1, fun _ => h2⟩
theorem first_of3 {k : Nat} {x : List UInt8} {rest : List (Nat × List UInt8)} (h : rest ≠ []) (hk : k ≠ 3) (h1 : (k = 5 ∨ k = 4) → x ∈ startX) : First ((k, x) :: rest) := by
  obtain ⟨⟨k', x'⟩, r, rfl⟩ := List.exists_cons_of_ne_nil h
  exact ⟨k, x, k', x', r, rfl, h1, fun h => absurd h hk⟩
theorem NC.ne {rest : List (Nat × List UInt8)} (h : NC rest) : rest ≠ [] := by obtain ⟨k, x, r, rfl, _⟩ := h; simp
theorem e_first : ∀ e : Ex, (∃ lv d, WE lv d e) → ∀ rest, NC rest → First (tks (pcE e) ++ rest) := by
  have parF : ∀ (a : List Pc) (b : Bool) (rest : List (Nat × List UInt8)), rest ≠ [] → (b = false → First (tks a ++ rest)) → First (tks (parP b a) ++ rest) := by
    intro a b rest hr h
    cases b with
    | false => exact h rfl
    | true =>
      show First (tks (sgn [40] :: (a ++ [sgn [41]])) ++ rest)
      rw [tks_par]
      exact first_of3 (by simp) (by decide) (fun _ => by decide)
  intro e
  induction e with
  | int n => exact fun _ rest h => first_of h (fun h => by rcases h with h | h <;> cases h)
  | bool b => exact fun _ rest h => first_of h (fun _ => by cases b <;> decide)
  | text s => exact fun _ rest h => first_of h (fun h => by rcases h with h | h <;> cases h)
  | var s => exact fun _ rest h => first_of h (fun h => by rcases h with h | h <;> cases h)
  | index s a ih => exact fun _ rest h => ⟨3, s, 5, [91], _, rfl, fun h => (by rcases h with h | h <;> cases h), fun _ h => by cases h.2⟩
  | len a ih => exact fun _ rest h => ⟨4, _, 5, [40], _, rfl, fun _ => by decide, fun h => by cases h⟩
  | neg a ih => exact fun _ rest h => first_of3 (fun e => h.ne (List.append_eq_nil_iff.1 e).2) (by decide) (fun _ => by decide)
  | not a ih => exact fun _ rest h => first_of3 (fun e => h.ne (List.append_eq_nil_iff.1 e).2) (by decide) (fun _ => by decide)
  | bin x a b iha ihb =>
    rintro ⟨_, _, hx, hw⟩ rest h
    have hs : ∃ lv d, WE lv d a := by
      split at hw
      · exact ⟨_, _, hw.2.1⟩
      · exact ⟨_, _, hw.1⟩
    have e1 : tks (pcE (.bin x a b)) ++ rest = tks (parP (decide (lvX a < lft (lvS x))) (pcE a)) ++ (5, x) :: (tks (parP (decide (lvX b < lvS x + 1)) (pcE b)) ++ rest) := by
      show tks (parP (decide (lvX a < lft (lvS x))) (pcE a) ++ sgn x :: parP (decide (lvX b < lvS x + 1)) (pcE b)) ++ rest = _
      rw [tks_app, List.append_assoc]
      rfl
    rw [e1]
    exact parF _ _ _ (by simp) (fun _ => iha hs _ (sign_fol hx _).nc)
theorem First.no {rest : List (Nat × List UInt8)} (h : First rest) (hs : Sx T N D rest s) (xs : List (List UInt8)) (hx : ∀ x ∈ startX, x ∉ xs) : isS T xs s = false := by
  obtain ⟨k, x, k', x', r, rfl, h1, _⟩ := h
  rw [hs.isS]
  by_cases hk : k = 5 ∨ k = 4
  · have := hx x (h1 hk)
    simp [this]
  · have : (decide (k = 5) || decide (k = 4)) = false := by simp; omega
    rw [this]; rfl
theorem First.calls {rest : List (Nat × List UInt8)} (h : First rest) (hs : Sx T N D rest s) : callsS T s = false := by
  obtain ⟨k, x, k', x', r, rfl, _, h2⟩ := h
  rw [hs.calls]
  by_cases hk : k = 3
  · have := h2 hk
    simp only [Bool.and_eq_false_iff, decide_eq_false_iff_not]
    by_cases h5 : k' = 5
    · exact .inr (.inr fun h => this ⟨h5, h⟩)
    · exact .inr (.inl h5)
  · simp [hk]
theorem Sx.calls_no {k : Nat} {x : List UInt8} (h : Sx T N D ((k, x) :: l) s) (hk : k ≠ 3) : callsS T s = false := by
  unfold callsS
  rw [h.tok.1, decide_eq_false hk]
  rfl
theorem comma_q {M : Nat} {rest : List (Nat × List UInt8)} : ∀ n (es : List Ex) (r : List Int) s N, (B → ∀ e ∈ es, WE 0 D e) → (∀ e ∈ es, ∃ lv d, WE lv d e) → Sx T N D (tks (pcC es) ++ (5, [41]) :: rest) s → PQ B (commaR T (exM src T M 0) n r) s (fun r' s' => r' = r ++ rootEs es N.length ∧ Sx T (N ++ flEs es N.length) D ((5, [41]) :: rest) s') := by
  intro n
  induction n with
  | zero => intro es r s N _ _ _; exact PQ.none
  | succ n ih =>
    intro es r s N hB hw hS
    unfold commaR
    refine PQ.ask ?_
    cases es with
    | nil =>
      have hS : Sx T N D ((5, [41]) :: rest) s := hS
      rw [hS.isS, if_neg (by decide)]
      exact PQ.ret ⟨by show r = r ++ []; simp, by show Sx T (N ++ []) D _ s; rw [List.append_nil]; exact hS⟩
    | cons e es =>
      have hS : Sx T N D ((5, [44]) :: (tks (pcE e) ++ (tks (pcC es) ++ (5, [41]) :: rest))) s := by
        have e1 : tks (pcC (e :: es)) ++ (5, [41]) :: rest = (5, [44]) :: (tks (pcE e) ++ (tks (pcC es) ++ (5, [41]) :: rest)) := by
          show (5, [44]) :: (tks (pcE e ++ pcC es) ++ (5, [41]) :: rest) = _
          rw [tks_app, List.append_assoc]
        rw [← e1]
        exact hS
      rw [hS.isS, if_pos (by decide)]
      refine PQ.mod ?_
      have hF : Fol 0 (tks (pcC es) ++ (5, [41]) :: rest) := by
        cases es with
        | nil => exact end_fol (by decide) 0 rest
        | cons f es => exact end_fol (by decide) 0 _
      refine PQ.bind (((ex_full e (hw e (by simp))).1 0 (by omega)) M _ N D _ (fun b => hB b e (by simp)) hF (by rw [par_no _ (by omega)]; exact hS.next (by simp))) (fun x => mono_comma erq_lost (mono_ex erq_lost _ _) _ _) ?_
      rintro x s' ⟨rfl, h2⟩
      refine (ih es (r ++ [((N.length + kE e : Nat) : Int)]) s' _ (fun b q hq => hB b q (by simp [hq])) (fun q hq => hw q (by simp [hq])) h2).mono ?_
      rintro r' s3 ⟨rfl, h3⟩
      rw [len_E] at h3
      refine ⟨?_, ?_⟩
      · rw [len_E, List.append_assoc]
        rfl
      · show Sx T (N ++ (flE e N.length ++ flEs es (N.length + kE e + 1))) D _ s3
        rw [← List.append_assoc]
        exact h3
theorem call_q {M n : Nat} {x : List UInt8} {es : List Ex} {rest : List (Nat × List UInt8)} (hB : B → ∀ e ∈ es, WE 0 D e) (hw : ∀ e ∈ es, ∃ lv d, WE lv d e) (hr : rest ≠ []) (hS : Sx T N D (tks (pcR (.call x es)) ++ rest) s) : PQ B (callM src T n (exM src T M 0)) s (fun y s' => y = ((N.length + kR (.call x es) : Nat) : Int) ∧ Sx T (N ++ flR (.call x es) N.length) D rest s') := by
  have e1 : tks (pcR (.call x es)) ++ rest = (3, x) :: (5, [40]) :: (tks (pcA es) ++ (5, [41]) :: rest) := by
    show (3, x) :: (5, [40]) :: (tks (pcA es ++ [sgn [41]]) ++ rest) = _
    rw [tks_app, List.append_assoc]
    rfl
  rw [e1] at hS
  obtain ⟨h1, h2⟩ := hS.name (by simp)
  unfold callM
  refine PQ.ask ?_
  refine PQ.ask ?_
  rw [h1]
  refine PQ.mod ?_
  refine PQ.mod ?_
  have h3 := h2.want (by simp)
  refine PQ.bind (R := fun r' s' => r' = rootEs es N.length ∧ Sx T (N ++ flEs es N.length) D ((5, [41]) :: rest) s') ?_ (fun _ => Mono.want erq_lost (Mono.node (erq_lost (T := T)) _ _)) ?_
  · unfold argsM
    refine PQ.ask ?_
    cases es with
    | nil =>
      have h3 : Sx T N D ((5, [41]) :: rest) _ := h3
      rw [h3.isS, if_pos (by decide)]
      exact PQ.ret ⟨rfl, by show Sx T (N ++ []) D _ _; rw [List.append_nil]; exact h3⟩
    | cons e es =>
      have hF : Fol 0 (tks (pcC es) ++ (5, [41]) :: rest) := by
        cases es with
        | nil => exact end_fol (by decide) 0 rest
        | cons f es => exact end_fol (by decide) 0 _
      have e2 : tks (pcA (e :: es)) ++ (5, [41]) :: rest = tks (pcE e) ++ (tks (pcC es) ++ (5, [41]) :: rest) := by
        show tks (pcE e ++ pcC es) ++ _ = _
        rw [tks_app, List.append_assoc]
      rw [e2] at h3
      rw [(e_first e (hw e (by simp)) _ hF.nc).no h3 [[41]] (by decide), if_neg (by decide)]
      refine PQ.bind (((ex_full e (hw e (by simp))).1 0 (by omega)) M _ N D _ (fun b => hB b e (by simp)) hF (by rw [par_no _ (by omega)]; exact h3)) (fun x => mono_comma erq_lost (mono_ex erq_lost _ _) _ _) ?_
      rintro y s' ⟨rfl, h4⟩
      refine (comma_q n es _ s' _ (fun b q hq => hB b q (by simp [hq])) (fun q hq => hw q (by simp [hq])) h4).mono ?_
      rintro r' s3 ⟨rfl, h5⟩
      rw [len_E] at h5 ⊢
      refine ⟨rfl, ?_⟩
      show Sx T (N ++ (flE e N.length ++ flEs es (N.length + kE e + 1))) D _ s3
      rw [← List.append_assoc]
      exact h5
  · rintro r' s' ⟨rfl, h4⟩
    refine PQ.mod ?_
    refine (node_q _ _ (h4.want hr)).mono ?_
    rintro y s2 ⟨rfl, h5⟩
    rw [len_Es] at *
    refine ⟨rfl, ?_⟩
    show Sx T (N ++ (flEs es N.length ++ [_])) D rest s2
    rw [← List.append_assoc]
    exact h5
theorem wr_ex {d : Int} {x : List UInt8} {es : List Ex} (h : WR d (.call x es)) : ∀ e ∈ es, ∃ lv d, WE lv d e := fun e he => ⟨0, d, h.2 e he⟩
theorem right_q {M n : Nat} {r : Rt} {rest : List (Nat × List UInt8)} (hB : B → WR D r) (hw : ∃ d, WR d r) (hF : Fol 0 rest) (hS : Sx T N D (tks (pcR r) ++ rest) s) : PQ B (rightM src T n (exM src T M 0)) s (fun y s' => y = ((N.length + kR r : Nat) : Int) ∧ Sx T (N ++ flR r N.length) D rest s') := by
  obtain ⟨d, hw⟩ := hw
  unfold rightM
  refine PQ.ask ?_
  refine PQ.ask ?_
  cases r with
  | ex e =>
    have hS : Sx T N D (tks (pcE e) ++ rest) s := hS
    have hf := e_first e ⟨_, _, hw⟩ rest hF.nc
    rw [hf.no hS _ (by decide), if_neg (by decide)]
    refine PQ.ask ?_
    rw [hf.no hS _ (by decide), if_neg (by decide)]
    refine PQ.ask ?_
    rw [hf.calls hS, if_neg (by decide)]
    exact ((ex_full e ⟨_, _, hw⟩).1 0 (by omega)) M s N D rest hB hF (by rw [par_no _ (by omega)]; exact hS)
  | input =>
    have hS : Sx T N D ((4, [105, 110, 112, 117, 116]) :: rest) s := hS
    rw [hS.isS, if_pos (by decide)]
    refine PQ.mod ?_
    refine (node_q _ _ (hS.next hF.ne)).mono ?_
    rintro y s2 ⟨rfl, h5⟩
    exact ⟨rfl, h5⟩
  | new a =>
    have hS : Sx T N D ((4, [110, 101, 119]) :: (5, [40]) :: (tks (pcE a) ++ (5, [41]) :: rest)) s := by
      have : tks (pcR (.new a)) ++ rest = (4, [110, 101, 119]) :: (5, [40]) :: (tks (pcE a) ++ (5, [41]) :: rest) := by
        show (4, [110, 101, 119]) :: (5, [40]) :: (tks (pcE a ++ [sgn [41]]) ++ rest) = _
        rw [tks_app, List.append_assoc]
        rfl
      rw [← this]
      exact hS
    rw [hS.isS, if_neg (by decide)]
    refine PQ.ask ?_
    rw [hS.isS, if_pos (by decide)]
    refine PQ.mod ?_
    refine PQ.mod ?_
    refine PQ.bind (((ex_full a ⟨_, _, hw⟩).1 0 (by omega)) M _ N D _ hB (end_fol (x := [41]) (by decide) 0 rest) (by rw [par_no _ (by omega)]; exact (hS.next (by simp)).want (by simp))) (fun _ => Mono.want erq_lost (Mono.node (erq_lost (T := T)) _ _)) ?_
    rintro y s' ⟨rfl, h4⟩
    refine PQ.mod ?_
    refine (node_q _ _ (h4.want hF.ne)).mono ?_
    rintro y s2 ⟨rfl, h5⟩
    refine ⟨by rw [len_E]; rfl, ?_⟩
    show Sx T (N ++ (flE a N.length ++ [_])) D rest s2
    rw [← List.append_assoc]
    exact h5
  | call x es =>
    have e1 : tks (pcR (.call x es)) ++ rest = (3, x) :: (5, [40]) :: (tks (pcA es) ++ (5, [41]) :: rest) := by
      show (3, x) :: (5, [40]) :: (tks (pcA es ++ [sgn [41]]) ++ rest) = _
      rw [tks_app, List.append_assoc]
      rfl
    have hS2 := hS
    rw [e1] at hS2
    rw [nameq_no (by decide) hS2, if_neg (by decide)]
    refine PQ.ask ?_
    rw [nameq_no (by decide) hS2, if_neg (by decide)]
    refine PQ.ask ?_
    rw [hS2.calls, if_pos (by decide)]
    exact call_q (fun b => (hB b).2) (wr_ex hw) hF.ne hS
theorem ended_q (n : Nd) (xs : List Int) {rest : List (Nat × List UInt8)} (hr : rest ≠ []) (h : Sx T N D ((5, [59]) :: rest) s) : PQ B (endedM T n xs) s (fun x s' => x = ((N.length : Nat) : Int) ∧ Sx T (N ++ [⟨n.k, 0, n.n, n.s, xs⟩]) D rest s') := by
  unfold endedM
  exact PQ.mod (node_q n xs (h.want hr))
/-- What may be behind a statement. -/
def NE (rest : List (Nat × List UInt8)) : Prop := ∃ k x r, rest = (k, x) :: r ∧ ((k = 5 ∨ k = 4) → x ≠ [101, 108, 115, 101])
theorem NE.ne {rest : List (Nat × List UInt8)} (h : NE rest) : rest ≠ [] := by obtain ⟨k, x, r, rfl, _⟩ := h; simp
theorem NE.no {rest : List (Nat × List UInt8)} (h : NE rest) (hs : Sx T N D rest s) : isS T [[101, 108, 115, 101]] s = false := by
  obtain ⟨k, x, r, rfl, h1⟩ := h
  rw [hs.isS]
  by_cases hk : k = 5 ∨ k = 4
  · simp [h1 hk]
  · have : (decide (k = 5) || decide (k = 4)) = false := by simp; omega
    rw [this]; rfl
def startS : List (List UInt8) := [[108, 101, 116], [112, 114, 105, 110, 116], [114, 101, 116, 117, 114, 110], [105, 102], [119, 104, 105, 108, 101]]
theorem s_first (st : Stm) : ∃ k x r, tks (pcS st) = (k, x) :: r ∧ (k = 3 ∨ k = 4 ∧ x ∈ startS) := by
  cases st with
  | lt s r => exact ⟨4, _, _, by unfold pcS; rfl, .inr ⟨rfl, by decide⟩⟩
  | set s r => exact ⟨3, _, _, by unfold pcS; rfl, .inl rfl⟩
  | put s a b => exact ⟨3, _, _, by unfold pcS; rfl, .inl rfl⟩
  | doo s l => exact ⟨3, _, _, by unfold pcS; rfl, .inl rfl⟩
  | print a => exact ⟨4, _, _, by unfold pcS; rfl, .inr ⟨rfl, by decide⟩⟩
  | ret0 => exact ⟨4, _, _, by unfold pcS; rfl, .inr ⟨rfl, by decide⟩⟩
  | ret1 a => exact ⟨4, _, _, by unfold pcS; rfl, .inr ⟨rfl, by decide⟩⟩
  | ifs c a => exact ⟨4, _, _, by unfold pcS; rfl, .inr ⟨rfl, by decide⟩⟩
  | ifelse c a b => exact ⟨4, _, _, by unfold pcS; rfl, .inr ⟨rfl, by decide⟩⟩
  | whil c a => exact ⟨4, _, _, by unfold pcS; rfl, .inr ⟨rfl, by decide⟩⟩
theorem s_ne (st : Stm) (rest : List (Nat × List UInt8)) : NE (tks (pcS st) ++ rest) := by
  obtain ⟨k, x, r, h1, h2⟩ := s_first st
  rw [h1]
  refine ⟨k, x, r ++ rest, rfl, fun hk => ?_⟩
  rcases h2 with h2 | ⟨_, h2⟩
  · omega
  · exact (by decide : ∀ x ∈ startS, x ≠ [101, 108, 115, 101]) x h2
theorem b_ne (b : Bl) (rest : List (Nat × List UInt8)) : NE (tks (pcL b) ++ (5, [125]) :: rest) := by
  cases b with
  | nil => unfold pcL; exact ⟨5, [125], rest, rfl, fun _ => by decide⟩
  | cons st l =>
    unfold pcL
    rw [tks_app, List.append_assoc]
    exact s_ne st _
/-- A block, of what its statements are. -/
theorem block_q {M n : Nat} {b : Bl} {rest : List (Nat × List UInt8)} {st : PM Int} (hm : Mono Er st) (h : ∀ s N D, (B → WB D b) → Sx T N D (tks (pcL b) ++ (5, [125]) :: rest) s → PQ B (stmsR T st n []) s (fun r' s' => r' = rootB b N.length ∧ Sx T (N ++ flB b N.length) D ((5, [125]) :: rest) s'))
    (hB : B → D < 16 ∧ WB (D + 1) b) (hr : rest ≠ []) (hS : Sx T N D ((5, [123]) :: (tks (pcL b) ++ (5, [125]) :: rest)) s) : PQ B (blockM src T n st) s (fun y s' => y = ((N.length + kB b : Nat) : Int) ∧ Sx T (N ++ flK b N.length) D rest s') := by
  unfold blockM
  refine PQ.ask ?_
  refine PQ.bind (open_q (fun b => (hB b).1) hS (by simp)) (fun _ => (mono_stms erq_lost hm _ _).bind fun _ => (mono_shut erq_lost _).bind fun _ => Mono.node (erq_lost (T := T)) _ _) ?_
  intro _ s1 h1
  refine PQ.bind (h s1 N (D + 1) (fun b => (hB b).2) h1) (fun _ => (mono_shut erq_lost _).bind fun _ => Mono.node (erq_lost (T := T)) _ _) ?_
  rintro r' s2 ⟨rfl, h2⟩
  refine PQ.bind (shut_q h2 hr) (fun _ => Mono.node (erq_lost (T := T)) _ _) ?_
  intro _ s3 h3
  refine (node_q _ _ h3).mono ?_
  rintro y s4 ⟨rfl, h4⟩
  refine ⟨by rw [List.length_append, flB_len], ?_⟩
  unfold flK
  rw [← List.append_assoc]
  exact h4
theorem tks_blk (b : Bl) (rest : List (Nat × List UInt8)) : tks (opP :: (pcL b ++ [clP])) ++ rest = (5, [123]) :: (tks (pcL b) ++ (5, [125]) :: rest) := by
  show (5, [123]) :: (tks (pcL b ++ [clP]) ++ rest) = _
  rw [tks_app, List.append_assoc]
  rfl
theorem tks_end (l : List Pc) (rest : List (Nat × List UInt8)) : tks (l ++ [endP]) ++ rest = tks l ++ (5, [59]) :: rest := by
  rw [tks_app, List.append_assoc]
  rfl
end
end Go.Proofs.YtgelggdgbmldiaaDoor
