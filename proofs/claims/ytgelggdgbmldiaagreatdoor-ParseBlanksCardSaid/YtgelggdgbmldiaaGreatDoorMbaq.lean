/-
  Layer 2: the data of the program's parser comes to an end. Written by an AI agent.
  Layer 2: the data of the program's parser comes to an end: statements, functions, the whole. Written by an AI agent.
  Layer 2: what ParseBelow counts, as data; a source cut short. Written by an AI agent.
  Layer 2: what a parser tells, in one form; how much it is at most. Written by an AI agent.
  Layer 2: a source, to the program's parser; tokens, to the document's lexer. Written by an AI agent.
-/
import Derived.Test.YtgelggdgbmldiaaGreatDoorMbaf
import Derived.Test.YtgelggdgbmldiaaGreatDoorMbaa
import Derived.Test.YtgelggdgbmldiaaGreatDoorMbap
import Derived.Test.YtgelggdgbmldiaaGreatDoorMbao
import Derived.Deep.OwnRows
import Derived.Laws.OwnMore
namespace Go.Proofs.YtgelggdgbmldiaaGreatDoor
set_option linter.unusedVariables false
set_option linter.unusedSimpArgs false

def Runs {α : Type} (m : PM α) (s : PS) (Q : α → PS → Prop) : Prop := ∃ a s', m s = some (a, s') ∧ Q a s'
theorem Runs.bind {α β : Type} {m : PM α} {f : α → PM β} {s : PS} {R : α → PS → Prop} {Q : β → PS → Prop} (h : Runs m s R) (h2 : ∀ a s', R a s' → Runs (f a) s' Q) : Runs (m >>= f) s Q := by
  obtain ⟨a, s1, h1, hr⟩ := h
  obtain ⟨b, s2, h3, hq⟩ := h2 a s1 hr
  exact ⟨b, s2, (bind_in h1).trans h3, hq⟩
theorem Runs.pure {α : Type} {a : α} {s : PS} {Q : α → PS → Prop} (h : Q a s) : Runs (pure a) s Q := ⟨a, s, rfl, h⟩
theorem Runs.ask {α β : Type} {g : PS → α} {f : α → PM β} {s : PS} {Q : β → PS → Prop} (h : Runs (f (g s)) s Q) : Runs (ask g >>= f) s Q :=
  Runs.bind (R := fun a s' => a = g s ∧ s' = s) ⟨g s, s, rfl, rfl, rfl⟩ (by rintro a s' ⟨rfl, rfl⟩; exact h)
theorem Runs.mod {β : Type} {g : PS → PS} {f : Unit → PM β} {s : PS} {Q : β → PS → Prop} (h : Runs (f ()) (g s) Q) : Runs (mod g >>= f) s Q :=
  Runs.bind (R := fun a s' => s' = g s) ⟨(), g s, rfl, rfl⟩ (by rintro a s' rfl; exact h)
theorem Runs.mono {α : Type} {m : PM α} {s : PS} {Q R : α → PS → Prop} (h : Runs m s Q) (k : ∀ a s', Q a s' → R a s') : Runs m s R := by
  obtain ⟨a, s1, h1, hq⟩ := h
  exact ⟨a, s1, h1, k _ _ hq⟩

/-- The tokens end with one of no kind. -/
def EndT (T : List Tok) : Prop := 0 < T.length ∧ T.length ≤ 1000 ∧ (T.getD (T.length - 1) default).k = 0

section
variable (T : List Tok)
def mu (s : PS) : Nat := if s.er = 0 then T.length - s.i else 0
def Okk (s : PS) : Prop := s.i < T.length ∧ (s.er ≠ 0 → s.i = T.length - 1)
def Rm (s : PS) : Prop := Okk T s ∧ 0 ≤ s.dp ∧ s.dp + mu T s ≤ 900000 ∧ s.nd.length + 10 * mu T s ≤ 90000
def St (s s' : PS) (d c : Nat) (e : Int) : Prop := Okk T s' ∧ mu T s' ≤ mu T s - d ∧ s'.nd.length + 10 * mu T s' ≤ s.nd.length + 10 * (mu T s - d) + c ∧ s'.dp = s.dp + e

variable {T}
theorem mu_pos {s : PS} (h : Okk T s) (he : s.er = 0) : 1 ≤ mu T s := by
  unfold mu
  rw [if_pos he]
  have := h.1
  omega
theorem er_of_mu {s : PS} (h : 1 ≤ mu T s) : s.er = 0 := by
  unfold mu at h
  split at h
  · assumption
  · omega
theorem some_tok (hT : EndT T) {s : PS} (h : Okk T s) (hk : (tokA T s).k ≠ 0) : s.er = 0 ∧ s.i < T.length - 1 := by
  have h0 : s.i ≠ T.length - 1 := fun hi => hk (by unfold tokA; rw [hi]; exact hT.2.2)
  have h1 := h.1
  refine ⟨?_, by omega⟩
  by_cases he : s.er = 0
  · exact he
  · exact absurd (h.2 he) h0
theorem isS_k {ts : List (List UInt8)} {s : PS} (h : isS T ts s = true) : (tokA T s).k ≠ 0 := by
  intro h0
  simp [isS, h0] at h
theorem callsS_k {s : PS} (h : callsS T s = true) : (tokA T s).k ≠ 0 := by
  intro h0
  simp [callsS, h0] at h
theorem next_St (hT : EndT T) {s : PS} (h : Okk T s) (hk : (tokA T s).k ≠ 0) : 2 ≤ mu T s ∧ mu T (nextS T s) + 1 = mu T s ∧ St T s (nextS T s) 1 0 0 := by
  obtain ⟨he, hi⟩ := some_tok hT h hk
  have hm : mu T s = T.length - s.i := if_pos he
  have hn : nextS T s = { s with i := s.i + 1 } := if_pos hi
  rw [hn]
  have hm' : mu T { s with i := s.i + 1 } = T.length - (s.i + 1) := if_pos he
  refine ⟨by omega, by omega, ⟨?_, fun hh => absurd he hh⟩, ?_, ?_, ?_⟩
  · show s.i + 1 < T.length
    omega
  · omega
  · show s.nd.length + _ ≤ _
    omega
  · show s.dp = _
    omega
theorem fail_St {s : PS} (hT : EndT T) (h : Okk T s) {e : Nat} (hx : e ≠ 0) : St T s (failS T e s) 1 0 0 := by
  by_cases he : s.er = 0
  · have hm := mu_pos h he
    have hn : failS T e s = { s with pl := (tokA T s).p, er := e, i := T.length - 1 } := if_pos he
    rw [hn]
    have hm' : mu T { s with pl := (tokA T s).p, er := e, i := T.length - 1 } = 0 := if_neg hx
    have h0 := hT.1
    refine ⟨⟨?_, fun _ => rfl⟩, by omega, ?_, ?_⟩
    · show T.length - 1 < T.length
      omega
    · show s.nd.length + _ ≤ _
      omega
    · show s.dp = _
      omega
  · have hn : failS T e s = s := if_neg he
    rw [hn]
    have hm : mu T s = 0 := if_neg he
    exact ⟨h, by omega, by omega, by omega⟩
theorem St.trans {s s1 s2 : PS} {d d' c c' : Nat} {e e' : Int} (h : St T s s1 d c e) (h2 : St T s1 s2 d' c' e') : St T s s2 d (c + c') (e + e') := by
  obtain ⟨a1, a2, a3, a4⟩ := h
  obtain ⟨b1, b2, b3, b4⟩ := h2
  exact ⟨b1, by omega, by omega, by omega⟩
theorem want_St (hT : EndT T) {s : PS} (h : Okk T s) (x : List UInt8) : St T s (wantS T x s) 1 0 0 := by
  unfold wantS
  by_cases hb : isS T [x] s = true
  · rw [if_pos hb]
    exact (next_St hT h (isS_k hb)).2.2
  · rw [if_neg hb]
    exact fail_St hT h (by decide)
theorem name_St (hT : EndT T) {s : PS} (h : Okk T s) : St T s (nameS T s) 1 0 0 := by
  unfold nameS
  by_cases hb : (tokA T s).k = 3
  · rw [if_pos hb]
    exact (next_St hT h (by omega)).2.2
  · rw [if_neg hb]
    exact fail_St hT h (by decide)
theorem open_St (hT : EndT T) {s : PS} (h : Okk T s) (x : List UInt8) : St T s (openS T x s) 1 0 0 := by
  unfold openS
  by_cases hb : (isS T [x] s && decide (16 ≤ s.dp)) = true
  · rw [if_pos hb]
    have h1 := fail_St hT h (e := 21) (by decide)
    exact h1.trans (want_St hT h1.1 x)
  · rw [if_neg hb]
    exact want_St hT h x

theorem next_nd (s : PS) : (nextS T s).nd = s.nd := by
  unfold nextS
  split <;> rfl
theorem fail_nd (e : Nat) (s : PS) : (failS T e s).nd = s.nd := by
  unfold failS
  split <;> rfl
theorem want_nd (x : List UInt8) (s : PS) : (wantS T x s).nd = s.nd := by
  unfold wantS
  split
  · exact next_nd s
  · exact fail_nd 20 s
theorem open_nd (x : List UInt8) (s : PS) : (openS T x s).nd = s.nd := by
  unfold openS
  rw [want_nd]
  split
  · exact fail_nd 21 s
  · rfl
theorem deep_runs {s : PS} (d : Int) (h : -900000 ≤ s.dp ∧ s.dp ≤ 900001) : Runs (deepS d) s (fun _ s' => s' = { s with dp := s.dp + d }) :=
  ⟨(), _, if_pos (by omega), rfl⟩
theorem deep_St {s : PS} (d : Int) (h : Okk T s) : St T s { s with dp := s.dp + d } 0 0 d := ⟨h, Nat.le_refl _, Nat.le_refl _, rfl⟩
theorem node_runs {s : PS} (h : Rm T s ∨ (Okk T s ∧ s.nd.length ≤ 99000)) (n : Nd) (l : List Int) : Runs (nodeM n l) s (fun _ s' => St T s s' 0 1 0) := by
  have h0 : Okk T s ∧ s.nd.length ≤ 99000 := by
    rcases h with h | h
    · obtain ⟨h1, h2, h3, h4⟩ := h
      exact ⟨h1, by omega⟩
    · exact h
  refine ⟨_, _, if_pos (by omega), h0.1, Nat.le_refl _, ?_, ?_⟩
  · show (s.nd ++ [_]).length + _ ≤ _
    rw [List.length_append]
    show s.nd.length + 1 + 10 * mu T s ≤ _
    omega
  · show s.dp = _
    omega
theorem open_runs (hT : EndT T) {s : PS} (h : Okk T s) (hd : -900000 ≤ s.dp ∧ s.dp ≤ 900001) (x : List UInt8) : Runs (openM T x) s (fun _ s' => St T s s' 1 0 1 ∧ s'.nd.length = s.nd.length) := by
  unfold openM
  refine Runs.mod ?_
  have h1 := open_St hT h x
  have h4 := h1.2.2.2
  refine (deep_runs 1 (by omega)).mono ?_
  rintro a s' rfl
  refine ⟨h1.trans (deep_St 1 h1.1), ?_⟩
  show (openS T x s).nd.length = _
  rw [open_nd]
theorem shut_runs (hT : EndT T) {s : PS} (h : Okk T s) (hd : -900000 ≤ s.dp ∧ s.dp ≤ 900001) (x : List UInt8) : Runs (shutM T x) s (fun _ s' => St T s s' 1 0 (-1)) := by
  unfold shutM
  refine Runs.mod ?_
  have h1 := want_St hT h x
  have h4 := h1.2.2.2
  refine (deep_runs (-1) (by omega)).mono ?_
  rintro a s' rfl
  exact h1.trans (deep_St (-1) h1.1)
end
end Go.Proofs.YtgelggdgbmldiaaGreatDoor

/-! Expressions. -/
namespace Go.Proofs.YtgelggdgbmldiaaGreatDoor
set_option linter.unusedVariables false
set_option linter.unusedSimpArgs false

section
variable {src : List UInt8} {T : List Tok}

theorem inside_runs (hT : EndT T) {ex : PM Int} {a b : List UInt8} {s : PS} (hs : Rm T s) (hm : 1 ≤ mu T s)
    (hx : ∀ s1, Rm T s1 → mu T s1 + 1 ≤ mu T s → Runs ex s1 (fun _ s' => St T s1 s' 1 1 0)) : Runs (insideM T ex a b) s (fun _ s' => St T s s' 1 1 0) := by
  obtain ⟨o, r1, r2, r3⟩ := hs
  unfold insideM
  refine Runs.bind (open_runs hT o (by omega) a) ?_
  rintro _ s1 ⟨⟨o1, m1, n1, d1⟩, e1⟩
  refine Runs.bind (hx s1 ⟨o1, by omega, by omega, by omega⟩ (by omega)) ?_
  rintro x s2 ⟨o2, m2, n2, d2⟩
  refine Runs.bind (shut_runs hT o2 (by omega) b) ?_
  rintro _ s3 ⟨o3, m3, n3, d3⟩
  exact Runs.pure ⟨o3, by omega, by omega, by omega⟩

theorem variable_runs (hT : EndT T) {ex : PM Int} {s : PS} (ln : Int) (hs : Rm T s)
    (hx : ∀ s1, Rm T s1 → mu T s1 + 1 ≤ mu T s → Runs ex s1 (fun _ s' => St T s1 s' 1 1 0)) : Runs (variableM T ex ln) s (fun _ s' => St T s s' 1 1 0) := by
  obtain ⟨o, r1, r2, r3⟩ := hs
  unfold variableM
  refine Runs.ask ?_
  refine Runs.mod ?_
  obtain ⟨o1, m1, n1, d1⟩ := name_St hT o
  generalize nameS T s = s1 at *
  refine Runs.ask ?_
  try dsimp only
  by_cases hb : isS T [[91]] s1 = true
  · rw [if_pos hb]
    have hn := (next_St hT o1 (isS_k hb)).1
    refine Runs.bind (inside_runs hT ⟨o1, by omega, by omega, by omega⟩ (by omega) (fun s2 h2 h3 => hx s2 h2 (by omega))) ?_
    rintro y s2 ⟨o2, m2, n2, d2⟩
    refine (node_runs (.inr ⟨o2, by omega⟩) _ _).mono ?_
    rintro _ s3 ⟨o3, m3, n3, d3⟩
    exact ⟨o3, by omega, by omega, by omega⟩
  · rw [if_neg hb]
    refine (node_runs (.inr ⟨o1, by omega⟩) _ _).mono ?_
    rintro _ s3 ⟨o3, m3, n3, d3⟩
    exact ⟨o3, by omega, by omega, by omega⟩

/-- One token on, then a node. -/
theorem next_node (hT : EndT T) {s : PS} (hs : Rm T s) (hk : (tokA T s).k ≠ 0) (n : Nd) (l : List Int) : Runs (do mod (nextS T); nodeM n l) s (fun _ s' => St T s s' 1 1 0) := by
  obtain ⟨o, r1, r2, r3⟩ := hs
  obtain ⟨hn, hn1, o1, m1, n1, d1⟩ := next_St hT o hk
  refine Runs.mod ?_
  refine (node_runs (.inr ⟨o1, by omega⟩) _ _).mono ?_
  rintro _ s3 ⟨o3, m3, n3, d3⟩
  exact ⟨o3, by omega, by omega, by omega⟩

theorem atom_runs (hT : EndT T) {ex : PM Int} {s : PS} (hs : Rm T s)
    (hx : ∀ s1, Rm T s1 → mu T s1 + 1 ≤ mu T s → Runs ex s1 (fun _ s' => St T s1 s' 1 1 0)) : Runs (atomM src T ex) s (fun _ s' => St T s s' 1 1 0) := by
  unfold atomM
  refine Runs.ask ?_
  refine Runs.ask ?_
  try dsimp only
  by_cases h1 : (tokA T s).k = 1
  · rw [if_pos h1]
    exact next_node hT hs (by omega) _ _
  rw [if_neg h1]
  by_cases h2 : (tokA T s).k = 2
  · rw [if_pos h2]
    exact next_node hT hs (by omega) _ _
  rw [if_neg h2]
  refine Runs.ask ?_
  try dsimp only
  by_cases hb : isS T [[116, 114, 117, 101], [102, 97, 108, 115, 101]] s = true
  · rw [if_pos hb]
    exact next_node hT hs (isS_k hb) _ _
  rw [if_neg hb]
  clear hb
  refine Runs.ask ?_
  try dsimp only
  by_cases hb : isS T [[108, 101, 110]] s = true
  · rw [if_pos hb]
    obtain ⟨o, r1, r2, r3⟩ := hs
    obtain ⟨hn, hn1, o1, m1, n1, d1⟩ := next_St hT o (isS_k hb)
    refine Runs.mod ?_
    try dsimp only
    generalize nextS T s = s1 at *
    refine Runs.bind (inside_runs hT ⟨o1, by omega, by omega, by omega⟩ (by omega) (fun s2 h2 h3 => hx s2 h2 (by omega))) ?_
    rintro y s2 ⟨o2, m2, n2, d2⟩
    refine (node_runs (.inr ⟨o2, by omega⟩) _ _).mono ?_
    rintro _ s3 ⟨o3, m3, n3, d3⟩
    exact ⟨o3, by omega, by omega, by omega⟩
  rw [if_neg hb]
  clear hb
  refine Runs.ask ?_
  try dsimp only
  by_cases hb : isS T [[40]] s = true
  · rw [if_pos hb]
    have hn := (next_St hT hs.1 (isS_k hb)).1
    exact inside_runs hT hs (by omega) hx
  rw [if_neg hb]
  exact variable_runs hT _ hs hx

theorem sign_runs (hT : EndT T) {fac : PM Int} {s : PS} (hs : Rm T s) (hm : 2 ≤ mu T s) (x : List UInt8) (n : Nd)
    (hf : ∀ s1, Rm T s1 → mu T s1 + 1 ≤ mu T s → Runs fac s1 (fun _ s' => St T s1 s' 1 1 0)) :
    Runs (do openM T x; let y ← fac; deepS (-1); nodeM n [y]) s (fun _ s' => St T s s' 1 1 0) := by
  obtain ⟨o, r1, r2, r3⟩ := hs
  refine Runs.bind (open_runs hT o (by omega) x) ?_
  rintro _ s1 ⟨⟨o1, m1, n1, d1⟩, e1⟩
  refine Runs.bind (hf s1 ⟨o1, by omega, by omega, by omega⟩ (by omega)) ?_
  rintro y s2 ⟨o2, m2, n2, d2⟩
  refine Runs.bind (deep_runs (-1) (by omega)) ?_
  rintro _ s3 rfl
  obtain ⟨o3, m3, n3, d3⟩ := deep_St (-1) o2
  generalize ({ s2 with dp := s2.dp + -1 } : PS) = s3 at *
  refine (node_runs (.inr ⟨o3, by omega⟩) _ _).mono ?_
  rintro _ s4 ⟨o4, m4, n4, d4⟩
  exact ⟨o4, by omega, by omega, by omega⟩

theorem factor_runs (hT : EndT T) {fac ex : PM Int} {s : PS} (hs : Rm T s)
    (hf : ∀ s1, Rm T s1 → mu T s1 + 1 ≤ mu T s → Runs fac s1 (fun _ s' => St T s1 s' 1 1 0))
    (hx : ∀ s1, Rm T s1 → mu T s1 + 1 ≤ mu T s → Runs ex s1 (fun _ s' => St T s1 s' 1 1 0)) : Runs (factorM src T fac ex) s (fun _ s' => St T s s' 1 1 0) := by
  unfold factorM
  refine Runs.ask ?_
  refine Runs.ask ?_
  refine Runs.ask ?_
  try dsimp only
  by_cases hb : isS T [[33]] s = true
  · rw [if_pos hb]
    exact sign_runs hT hs (next_St hT hs.1 (isS_k hb)).1 _ _ hf
  rw [if_neg hb]
  clear hb
  refine Runs.ask ?_
  try dsimp only
  by_cases hb : isS T [[45]] s = true
  · rw [if_pos hb]
    exact sign_runs hT hs (next_St hT hs.1 (isS_k hb)).1 _ _ hf
  rw [if_neg hb]
  exact atom_runs hT hs hx

theorem chain_runs (hT : EndT T) {lv : Nat} {sub : PM Int} (ln : Int) (M : Nat)
    (hsub : ∀ s1, Rm T s1 → mu T s1 + 1 ≤ M → Runs sub s1 (fun _ s' => St T s1 s' 1 1 0)) :
    ∀ n (x : Int) s, Okk T s → 0 ≤ s.dp → s.dp + mu T s ≤ 900000 → s.nd.length + 10 * mu T s ≤ 90001 → mu T s ≤ M → mu T s + 1 ≤ n → Runs (chainR T lv sub ln n x) s (fun _ s' => St T s s' 0 0 0) := by
  intro n
  induction n with
  | zero => intro x s _ _ _ _ _ h; exact absurd h (by omega)
  | succ n ih =>
    intro x s o r1 r2 r3 hM hn
    unfold chainR
    refine Runs.ask ?_
    try dsimp only
    by_cases hb : isS T (signsL lv) s = true
    · rw [if_pos hb]
      refine Runs.ask ?_
      refine Runs.mod ?_
      obtain ⟨hn, hn1, o1, m1, n1, d1⟩ := next_St hT o (isS_k hb)
      try dsimp only
      generalize nextS T s = s1 at *
      refine Runs.bind (hsub s1 ⟨o1, by omega, by omega, by omega⟩ (by omega)) ?_
      rintro y s2 ⟨o2, m2, n2, d2⟩
      refine Runs.bind (node_runs (.inr ⟨o2, by omega⟩) _ _) ?_
      rintro z s3 ⟨o3, m3, n3, d3⟩
      by_cases hl : lv = 2
      · rw [if_pos hl]
        exact Runs.pure ⟨o3, by omega, by omega, by omega⟩
      · rw [if_neg hl]
        refine (ih z s3 o3 (by omega) (by omega) (by omega) (by omega) (by omega)).mono ?_
        rintro _ s4 ⟨o4, m4, n4, d4⟩
        exact ⟨o4, by omega, by omega, by omega⟩
    · rw [if_neg hb]
      exact Runs.pure ⟨o, by omega, by omega, by omega⟩

theorem ex_runs (hT : EndT T) : ∀ n lv s, lv ≤ 5 → Rm T s → 6 * mu T s + 6 - lv ≤ n → Runs (exM src T n lv) s (fun _ s' => St T s s' 1 1 0) := by
  intro n
  induction n with
  | zero => intro lv s h1 _ h; exact absurd h (by omega)
  | succ n ih =>
    intro lv s hl hs hn
    unfold exM
    by_cases h5 : lv = 5
    · rw [if_pos h5]
      exact factor_runs hT hs (fun s1 h1 h2 => ih 5 s1 (by omega) h1 (by omega)) (fun s1 h1 h2 => ih 0 s1 (by omega) h1 (by omega))
    · rw [if_neg h5]
      refine Runs.ask ?_
      refine Runs.bind (ih (lv + 1) s (by omega) hs (by omega)) ?_
      obtain ⟨o, r1, r2, r3⟩ := hs
      rintro x s1 ⟨o1, m1, n1, d1⟩
      refine (chain_runs hT _ (mu T s) (fun s2 h2 h3 => ih (lv + 1) s2 (by omega) h2 (by omega)) n x s1 o1 (by omega) (by omega) (by omega) (by omega) (by omega)).mono ?_
      rintro _ s2 ⟨o2, m2, n2, d2⟩
      exact ⟨o2, by omega, by omega, by omega⟩
end
end Go.Proofs.YtgelggdgbmldiaaGreatDoor

namespace Go.Proofs.YtgelggdgbmldiaaGreatDoor
set_option linter.unusedVariables false
set_option linter.unusedSimpArgs false

section
variable {src : List UInt8} {T : List Tok}
/-- What ends, with its node. -/
theorem ended_runs (hT : EndT T) {s : PS} (h : Okk T s ∧ s.nd.length ≤ 99000) (n : Nd) (l : List Int) : Runs (endedM T n l) s (fun _ s' => St T s s' 1 1 0) := by
  obtain ⟨o, r⟩ := h
  unfold endedM
  refine Runs.mod ?_
  have hw : (wantS T [59] s).nd.length = s.nd.length := by rw [want_nd]
  obtain ⟨o1, m1, n1, d1⟩ := want_St hT o [59]
  generalize wantS T [59] s = s1 at *
  refine (node_runs (.inr ⟨o1, by omega⟩) _ _).mono ?_
  rintro _ s3 ⟨o3, m3, n3, d3⟩
  exact ⟨o3, by omega, by omega, by omega⟩

def ExR (T : List Tok) (ex : PM Int) (M : Nat) : Prop := ∀ s1, Rm T s1 → mu T s1 ≤ M → Runs ex s1 (fun _ s' => St T s1 s' 1 1 0)

theorem comma_runs (hT : EndT T) {ex : PM Int} {M : Nat} (hx : ExR T ex M) :
    ∀ n (l : List Int) s, Okk T s → 0 ≤ s.dp → s.dp + mu T s ≤ 900000 → s.nd.length + 10 * mu T s ≤ 90001 → mu T s ≤ M → mu T s + 1 ≤ n → Runs (commaR T ex n l) s (fun _ s' => St T s s' 0 0 0) := by
  intro n
  induction n with
  | zero => intro x s _ _ _ _ _ h; exact absurd h (by omega)
  | succ n ih =>
    intro l s o r1 r2 r3 hM hn
    unfold commaR
    refine Runs.ask ?_
    try dsimp only
    by_cases hb : isS T [[44]] s = true
    · rw [if_pos hb]
      refine Runs.mod ?_
      obtain ⟨hn, hn1, o1, m1, n1, d1⟩ := next_St hT o (isS_k hb)
      try dsimp only
      generalize nextS T s = s1 at *
      refine Runs.bind (hx s1 ⟨o1, by omega, by omega, by omega⟩ (by omega)) ?_
      rintro y s2 ⟨o2, m2, n2, d2⟩
      refine (ih _ s2 o2 (by omega) (by omega) (by omega) (by omega) (by omega)).mono ?_
      rintro _ s4 ⟨o4, m4, n4, d4⟩
      exact ⟨o4, by omega, by omega, by omega⟩
    · rw [if_neg hb]
      exact Runs.pure ⟨o, by omega, by omega, by omega⟩

theorem args_runs (hT : EndT T) {ex : PM Int} {M N : Nat} (hx : ExR T ex M) {s : PS} (hs : Rm T s) (hM : mu T s ≤ M) (hN : mu T s + 1 ≤ N) :
    Runs (argsM T N ex) s (fun _ s' => St T s s' 0 1 0) := by
  unfold argsM
  refine Runs.ask ?_
  try dsimp only
  by_cases hb : isS T [[41]] s = true
  · rw [if_pos hb]
    exact Runs.pure ⟨hs.1, by omega, by omega, by omega⟩
  · rw [if_neg hb]
    refine Runs.bind (hx s hs hM) ?_
    obtain ⟨o, r1, r2, r3⟩ := hs
    rintro y s2 ⟨o2, m2, n2, d2⟩
    refine (comma_runs hT hx N _ s2 o2 (by omega) (by omega) (by omega) (by omega) (by omega)).mono ?_
    rintro _ s4 ⟨o4, m4, n4, d4⟩
    exact ⟨o4, by omega, by omega, by omega⟩

theorem call_runs (hT : EndT T) {ex : PM Int} {M N : Nat} (hx : ExR T ex M) {s : PS} (hs : Rm T s) (hc : callsS T s = true) (hM : mu T s ≤ M) (hN : mu T s + 1 ≤ N) :
    Runs (callM src T N ex) s (fun _ s' => St T s s' 1 2 0) := by
  have hmu := (next_St hT hs.1 (callsS_k hc)).1
  obtain ⟨o, r1, r2, r3⟩ := hs
  unfold callM
  refine Runs.ask ?_
  refine Runs.ask ?_
  refine Runs.mod ?_
  obtain ⟨o1, m1, n1, d1⟩ := name_St hT o
  generalize nameS T s = s1 at *
  refine Runs.mod ?_
  obtain ⟨o2, m2, n2, d2⟩ := want_St hT o1 [40]
  generalize wantS T [40] s1 = s2 at *
  try dsimp only
  refine Runs.bind (args_runs hT hx ⟨o2, by omega, by omega, by omega⟩ (by omega) (by omega)) ?_
  rintro l s3 ⟨o3, m3, n3, d3⟩
  refine Runs.mod ?_
  obtain ⟨o4, m4, n4, d4⟩ := want_St hT o3 [41]
  generalize wantS T [41] s3 = s4 at *
  refine (node_runs (.inr ⟨o4, by omega⟩) _ _).mono ?_
  rintro _ s5 ⟨o5, m5, n5, d5⟩
  exact ⟨o5, by omega, by omega, by omega⟩

theorem right_runs (hT : EndT T) {ex : PM Int} {M N : Nat} (hx : ExR T ex M) {s : PS} (hs : Rm T s) (hM : mu T s ≤ M) (hN : mu T s + 1 ≤ N) :
    Runs (rightM src T N ex) s (fun _ s' => St T s s' 1 2 0) := by
  unfold rightM
  refine Runs.ask ?_
  refine Runs.ask ?_
  try dsimp only
  by_cases hb : isS T [[105, 110, 112, 117, 116]] s = true
  · rw [if_pos hb]
    refine (next_node hT hs (isS_k hb) _ _).mono ?_
    rintro _ s5 ⟨o5, m5, n5, d5⟩
    exact ⟨o5, by omega, by omega, by omega⟩
  rw [if_neg hb]
  clear hb
  refine Runs.ask ?_
  try dsimp only
  by_cases hb : isS T [[110, 101, 119]] s = true
  · rw [if_pos hb]
    obtain ⟨o, r1, r2, r3⟩ := hs
    refine Runs.mod ?_
    obtain ⟨hn, hn1, o1, m1, n1, d1⟩ := next_St hT o (isS_k hb)
    generalize nextS T s = s1 at *
    refine Runs.mod ?_
    obtain ⟨o2, m2, n2, d2⟩ := want_St hT o1 [40]
    generalize wantS T [40] s1 = s2 at *
    try dsimp only
    refine Runs.bind (hx s2 ⟨o2, by omega, by omega, by omega⟩ (by omega)) ?_
    rintro y s3 ⟨o3, m3, n3, d3⟩
    refine Runs.mod ?_
    obtain ⟨o4, m4, n4, d4⟩ := want_St hT o3 [41]
    generalize wantS T [41] s3 = s4 at *
    refine (node_runs (.inr ⟨o4, by omega⟩) _ _).mono ?_
    rintro _ s5 ⟨o5, m5, n5, d5⟩
    exact ⟨o5, by omega, by omega, by omega⟩
  rw [if_neg hb]
  clear hb
  refine Runs.ask ?_
  try dsimp only
  by_cases hb : callsS T s = true
  · rw [if_pos hb]
    exact call_runs hT hx hs hb hM hN
  rw [if_neg hb]
  refine (hx s hs hM).mono ?_
  rintro _ s5 ⟨o5, m5, n5, d5⟩
  exact ⟨o5, by omega, by omega, by omega⟩

theorem change_runs (hT : EndT T) {ex : PM Int} {M N : Nat} (ln : Int) (hx : ExR T ex M) {s : PS} (hs : Rm T s) (h1 : 1 ≤ mu T s) (hM : mu T s ≤ M) (hN : mu T s + 1 ≤ N) :
    Runs (changeM src T N ex ln) s (fun _ s' => St T s s' 1 4 0) := by
  obtain ⟨o, r1, r2, r3⟩ := hs
  unfold changeM
  refine Runs.ask ?_
  refine Runs.mod ?_
  obtain ⟨o1, m1, n1, d1⟩ := name_St hT o
  generalize nameS T s = s1 at *
  refine Runs.ask ?_
  try dsimp only
  by_cases hb : isS T [[91]] s1 = true
  · rw [if_pos hb]
    have hn := (next_St hT o1 (isS_k hb)).1
    refine Runs.bind (open_runs hT o1 (by omega) [91]) ?_
    rintro _ s2 ⟨⟨o2, m2, n2, d2⟩, e2⟩
    refine Runs.bind (hx s2 ⟨o2, by omega, by omega, by omega⟩ (by omega)) ?_
    rintro y s3 ⟨o3, m3, n3, d3⟩
    refine Runs.bind (shut_runs hT o3 (by omega) [93]) ?_
    rintro _ s4 ⟨o4, m4, n4, d4⟩
    refine Runs.mod ?_
    obtain ⟨o5, m5, n5, d5⟩ := want_St hT o4 [61]
    generalize wantS T [61] s4 = s5 at *
    try dsimp only
    refine Runs.bind (hx s5 ⟨o5, by omega, by omega, by omega⟩ (by omega)) ?_
    rintro z s6 ⟨o6, m6, n6, d6⟩
    refine (ended_runs hT ⟨o6, by omega⟩ _ _).mono ?_
    rintro _ s7 ⟨o7, m7, n7, d7⟩
    exact ⟨o7, by omega, by omega, by omega⟩
  · rw [if_neg hb]
    refine Runs.mod ?_
    obtain ⟨o2, m2, n2, d2⟩ := want_St hT o1 [61]
    generalize wantS T [61] s1 = s2 at *
    try dsimp only
    refine Runs.bind (right_runs hT hx ⟨o2, by omega, by omega, by omega⟩ (by omega) (by omega)) ?_
    rintro y s3 ⟨o3, m3, n3, d3⟩
    refine (ended_runs hT ⟨o3, by omega⟩ _ _).mono ?_
    rintro _ s7 ⟨o7, m7, n7, d7⟩
    exact ⟨o7, by omega, by omega, by omega⟩

def BlR (T : List Tok) (bl : PM Int) (M : Nat) : Prop := ∀ s1, Rm T s1 → mu T s1 + 1 ≤ M → Runs bl s1 (fun _ s' => St T s1 s' 1 1 0)

theorem choice_runs (hT : EndT T) {ex bl : PM Int} {M : Nat} (ln : Int) (hx : ExR T ex M) (hbl : BlR T bl M) {s : PS} (hs : Rm T s) (hk : (tokA T s).k ≠ 0) (hM : mu T s ≤ M) :
    Runs (choiceM T ex bl ln) s (fun _ s' => St T s s' 1 4 0) := by
  obtain ⟨o, r1, r2, r3⟩ := hs
  unfold choiceM
  refine Runs.mod ?_
  obtain ⟨hn, hn1, o1, m1, n1, d1⟩ := next_St hT o hk
  generalize nextS T s = s1 at *
  try dsimp only
  refine Runs.bind (hx s1 ⟨o1, by omega, by omega, by omega⟩ (by omega)) ?_
  rintro x s2 ⟨o2, m2, n2, d2⟩
  refine Runs.bind (hbl s2 ⟨o2, by omega, by omega, by omega⟩ (by omega)) ?_
  rintro y s3 ⟨o3, m3, n3, d3⟩
  refine Runs.ask ?_
  try dsimp only
  by_cases hb : isS T [[101, 108, 115, 101]] s3 = true
  · rw [if_pos hb]
    refine Runs.mod ?_
    obtain ⟨hn', hn1', o4, m4, n4, d4⟩ := next_St hT o3 (isS_k hb)
    generalize nextS T s3 = s4 at *
    try dsimp only
    refine Runs.bind (hbl s4 ⟨o4, by omega, by omega, by omega⟩ (by omega)) ?_
    rintro z s5 ⟨o5, m5, n5, d5⟩
    refine (node_runs (.inr ⟨o5, by omega⟩) _ _).mono ?_
    rintro _ s7 ⟨o7, m7, n7, d7⟩
    exact ⟨o7, by omega, by omega, by omega⟩
  · rw [if_neg hb]
    refine (node_runs (.inr ⟨o3, by omega⟩) _ _).mono ?_
    rintro _ s7 ⟨o7, m7, n7, d7⟩
    exact ⟨o7, by omega, by omega, by omega⟩

theorem statement_runs (hT : EndT T) {ex bl : PM Int} {M N : Nat} (hx : ExR T ex M) (hbl : BlR T bl M) {s : PS} (hs : Rm T s) (h1 : 1 ≤ mu T s) (hM : mu T s ≤ M) (hN : mu T s + 1 ≤ N) :
    Runs (statementM src T N ex bl) s (fun _ s' => St T s s' 1 4 0) := by
  unfold statementM
  refine Runs.ask ?_
  refine Runs.ask ?_
  try dsimp only
  by_cases hb : isS T [[105, 102]] s = true
  · rw [if_pos hb]
    exact choice_runs hT _ hx hbl hs (isS_k hb) hM
  rw [if_neg hb]
  clear hb
  refine Runs.ask ?_
  try dsimp only
  by_cases hb : isS T [[119, 104, 105, 108, 101]] s = true
  · rw [if_pos hb]
    obtain ⟨o, r1, r2, r3⟩ := hs
    refine Runs.mod ?_
    obtain ⟨hn, hn1, o1, m1, n1, d1⟩ := next_St hT o (isS_k hb)
    generalize nextS T s = s1 at *
    try dsimp only
    refine Runs.bind (hx s1 ⟨o1, by omega, by omega, by omega⟩ (by omega)) ?_
    rintro x s2 ⟨o2, m2, n2, d2⟩
    refine Runs.bind (hbl s2 ⟨o2, by omega, by omega, by omega⟩ (by omega)) ?_
    rintro y s3 ⟨o3, m3, n3, d3⟩
    refine (node_runs (.inr ⟨o3, by omega⟩) _ _).mono ?_
    rintro _ s7 ⟨o7, m7, n7, d7⟩
    exact ⟨o7, by omega, by omega, by omega⟩
  rw [if_neg hb]
  clear hb
  refine Runs.ask ?_
  try dsimp only
  by_cases hb : callsS T s = true
  · rw [if_pos hb]
    refine Runs.bind (call_runs hT hx hs hb hM hN) ?_
    obtain ⟨o, r1, r2, r3⟩ := hs
    rintro x s2 ⟨o2, m2, n2, d2⟩
    refine (ended_runs hT ⟨o2, by omega⟩ _ _).mono ?_
    rintro _ s7 ⟨o7, m7, n7, d7⟩
    exact ⟨o7, by omega, by omega, by omega⟩
  rw [if_neg hb]
  clear hb
  refine Runs.ask ?_
  try dsimp only
  by_cases hb : isS T [[112, 114, 105, 110, 116]] s = true
  · rw [if_pos hb]
    obtain ⟨o, r1, r2, r3⟩ := hs
    refine Runs.mod ?_
    obtain ⟨hn, hn1, o1, m1, n1, d1⟩ := next_St hT o (isS_k hb)
    generalize nextS T s = s1 at *
    try dsimp only
    refine Runs.bind (hx s1 ⟨o1, by omega, by omega, by omega⟩ (by omega)) ?_
    rintro x s2 ⟨o2, m2, n2, d2⟩
    refine (ended_runs hT ⟨o2, by omega⟩ _ _).mono ?_
    rintro _ s7 ⟨o7, m7, n7, d7⟩
    exact ⟨o7, by omega, by omega, by omega⟩
  rw [if_neg hb]
  clear hb
  refine Runs.ask ?_
  try dsimp only
  by_cases hb : isS T [[114, 101, 116, 117, 114, 110]] s = true
  · rw [if_pos hb]
    obtain ⟨o, r1, r2, r3⟩ := hs
    refine Runs.mod ?_
    obtain ⟨hn, hn1, o1, m1, n1, d1⟩ := next_St hT o (isS_k hb)
    generalize nextS T s = s1 at *
    refine Runs.ask ?_
    try dsimp only
    by_cases hb : isS T [[59]] s1 = true
    · rw [if_pos hb]
      refine (ended_runs hT ⟨o1, by omega⟩ _ _).mono ?_
      rintro _ s7 ⟨o7, m7, n7, d7⟩
      exact ⟨o7, by omega, by omega, by omega⟩
    · rw [if_neg hb]
      refine Runs.bind (hx s1 ⟨o1, by omega, by omega, by omega⟩ (by omega)) ?_
      rintro x s2 ⟨o2, m2, n2, d2⟩
      refine (ended_runs hT ⟨o2, by omega⟩ _ _).mono ?_
      rintro _ s7 ⟨o7, m7, n7, d7⟩
      exact ⟨o7, by omega, by omega, by omega⟩
  rw [if_neg hb]
  clear hb
  refine Runs.ask ?_
  try dsimp only
  by_cases hb : isS T [[108, 101, 116]] s = true
  · rw [if_pos hb]
    obtain ⟨o, r1, r2, r3⟩ := hs
    refine Runs.mod ?_
    obtain ⟨hn, hn1, o1, m1, n1, d1⟩ := next_St hT o (isS_k hb)
    generalize nextS T s = s1 at *
    refine Runs.ask ?_
    refine Runs.mod ?_
    obtain ⟨o2, m2, n2, d2⟩ := name_St hT o1
    generalize nameS T s1 = s2 at *
    refine Runs.mod ?_
    obtain ⟨o3, m3, n3, d3⟩ := want_St hT o2 [61]
    generalize wantS T [61] s2 = s3 at *
    try dsimp only
    refine Runs.bind (right_runs hT hx ⟨o3, by omega, by omega, by omega⟩ (by omega) (by omega)) ?_
    rintro y s4 ⟨o4, m4, n4, d4⟩
    refine (ended_runs hT ⟨o4, by omega⟩ _ _).mono ?_
    rintro _ s7 ⟨o7, m7, n7, d7⟩
    exact ⟨o7, by omega, by omega, by omega⟩
  rw [if_neg hb]
  exact change_runs hT _ hx hs h1 hM hN

def SmR (T : List Tok) (st : PM Int) (M : Nat) : Prop := ∀ s1, Rm T s1 → 1 ≤ mu T s1 → mu T s1 ≤ M → Runs st s1 (fun _ s' => St T s1 s' 1 4 0)

theorem stms_runs {st : PM Int} {M : Nat} (hst : SmR T st M) :
    ∀ n (l : List Int) s, Okk T s → (1 ≤ mu T s → Rm T s) → mu T s ≤ M → mu T s + 1 ≤ n → Runs (stmsR T st n l) s (fun _ s' => St T s s' 0 0 0) := by
  intro n
  induction n with
  | zero => intro x s _ _ _ h; exact absurd h (by omega)
  | succ n ih =>
    intro l s o hr hM hn
    unfold stmsR
    refine Runs.ask ?_
    try dsimp only
    by_cases hb : (decide (s.er = 0) && !(isS T [[125]] s)) = true
    · rw [if_pos hb]
      have he : s.er = 0 := by simp at hb; exact hb.1
      have hm := mu_pos o he
      refine Runs.bind (hst s (hr hm) hm hM) ?_
      obtain ⟨_, r1, r2, r3⟩ := hr hm
      rintro y s2 ⟨o2, m2, n2, d2⟩
      refine (ih _ s2 o2 (fun _ => ⟨o2, by omega, by omega, by omega⟩) (by omega) (by omega)).mono ?_
      rintro _ s4 ⟨o4, m4, n4, d4⟩
      exact ⟨o4, by omega, by omega, by omega⟩
    · rw [if_neg hb]
      exact Runs.pure ⟨o, by omega, by omega, by omega⟩

theorem block_runs (hT : EndT T) {st : PM Int} {M N : Nat} (hst : SmR T st M) {s : PS} (hs : Rm T s) (hM : mu T s ≤ M + 1) (hN : mu T s + 1 ≤ N) :
    Runs (blockM src T N st) s (fun _ s' => St T s s' 1 1 0) := by
  obtain ⟨o, r1, r2, r3⟩ := hs
  unfold blockM
  refine Runs.ask ?_
  refine Runs.bind (open_runs hT o (by omega) [123]) ?_
  rintro _ s2 ⟨⟨o2, m2, n2, d2⟩, e2⟩
  refine Runs.bind (stms_runs hst N [] s2 o2 (fun _ => ⟨o2, by omega, by omega, by omega⟩) (by omega) (by omega)) ?_
  rintro l s3 ⟨o3, m3, n3, d3⟩
  refine Runs.bind (shut_runs hT o3 (by omega) [125]) ?_
  rintro _ s4 ⟨o4, m4, n4, d4⟩
  refine (node_runs (.inr ⟨o4, by omega⟩) _ _).mono ?_
  rintro _ s7 ⟨o7, m7, n7, d7⟩
  exact ⟨o7, by omega, by omega, by omega⟩

theorem st_runs (hT : EndT T) {N : Nat} : ∀ n M, M ≤ n → 6 * M + 7 ≤ N → SmR T (stM src T N n) M := by
  intro n
  induction n with
  | zero => intro M hM hN s h1 h2 h3; exact absurd h2 (by omega)
  | succ n ih =>
    intro M hM hN s hs h1 h2
    unfold stM
    refine statement_runs (M := M) hT (fun s1 h3 h4 => ex_runs hT N 0 s1 (by omega) h3 (by omega)) (fun s1 h3 h4 => ?_) hs h1 h2 (by omega)
    exact block_runs hT (ih (M - 1) (by omega) (by omega)) h3 (by omega) (by omega)

theorem kind_runs (hT : EndT T) {s : PS} (o : Okk T s) : Runs (kindM T) s (fun _ s' => St T s s' 1 0 0) := by
  unfold kindM
  refine Runs.ask ?_
  try dsimp only
  by_cases hb : isS T [[105, 110, 116], [98, 111, 111, 108], [116, 101, 120, 116], [108, 105, 115, 116]] s = true
  · rw [if_pos hb]
    refine Runs.ask ?_
    refine Runs.mod ?_
    exact Runs.pure (next_St hT o (isS_k hb)).2.2
  · rw [if_neg hb]
    refine Runs.mod ?_
    exact Runs.pure (fail_St hT o (by decide))
theorem param_runs (hT : EndT T) {s : PS} (o : Okk T s) : Runs (paramM T) s (fun _ s' => St T s s' 1 0 0) := by
  unfold paramM
  refine Runs.ask ?_
  refine Runs.mod ?_
  have h1 := name_St hT o
  refine Runs.bind (kind_runs hT h1.1) ?_
  intro t s2 h2
  refine Runs.pure ?_
  obtain ⟨o3, m3, n3, d3⟩ := h1.trans h2
  obtain ⟨o1, m1, n1, d1⟩ := h1
  obtain ⟨o2, m2, n2, d2⟩ := h2
  exact ⟨o3, by omega, by omega, by omega⟩
theorem paramsR_runs (hT : EndT T) : ∀ n (l : List (List UInt8 × Int)) s, Okk T s → mu T s + 1 ≤ n → Runs (paramsR T n l) s (fun _ s' => St T s s' 0 0 0) := by
  intro n
  induction n with
  | zero => intro x s _ h; exact absurd h (by omega)
  | succ n ih =>
    intro l s o hn
    unfold paramsR
    refine Runs.ask ?_
    try dsimp only
    by_cases hb : isS T [[44]] s = true
    · rw [if_pos hb]
      refine Runs.mod ?_
      obtain ⟨hn, hn1, o1, m1, n1, d1⟩ := next_St hT o (isS_k hb)
      generalize nextS T s = s1 at *
      try dsimp only
      refine Runs.bind (param_runs hT o1) ?_
      rintro y s2 ⟨o2, m2, n2, d2⟩
      refine (ih _ s2 o2 (by omega)).mono ?_
      rintro _ s4 ⟨o4, m4, n4, d4⟩
      exact ⟨o4, by omega, by omega, by omega⟩
    · rw [if_neg hb]
      exact Runs.pure ⟨o, by omega, by omega, by omega⟩
theorem params_runs (hT : EndT T) {N : Nat} {s : PS} (o : Okk T s) (hN : mu T s + 1 ≤ N) : Runs (paramsM T N) s (fun _ s' => St T s s' 0 0 0) := by
  unfold paramsM
  refine Runs.ask ?_
  try dsimp only
  by_cases hb : isS T [[41]] s = true
  · rw [if_pos hb]
    exact Runs.pure ⟨o, by omega, by omega, by omega⟩
  · rw [if_neg hb]
    refine Runs.bind (param_runs hT o) ?_
    rintro y s2 ⟨o2, m2, n2, d2⟩
    refine (paramsR_runs hT N _ s2 o2 (by omega)).mono ?_
    rintro _ s4 ⟨o4, m4, n4, d4⟩
    exact ⟨o4, by omega, by omega, by omega⟩
theorem ret_runs (hT : EndT T) {s : PS} (o : Okk T s) : Runs (retM T) s (fun _ s' => St T s s' 0 0 0) := by
  unfold retM
  refine Runs.ask ?_
  try dsimp only
  by_cases hb : isS T [[123]] s = true
  · rw [if_pos hb]
    exact Runs.pure ⟨o, by omega, by omega, by omega⟩
  · rw [if_neg hb]
    refine (kind_runs hT o).mono ?_
    rintro y s2 ⟨o2, m2, n2, d2⟩
    exact ⟨o2, by omega, by omega, by omega⟩
theorem function_runs (hT : EndT T) {N : Nat} {s : PS} (hs : Rm T s) (h1 : 1 ≤ mu T s) (hN : 6 * mu T s + 7 ≤ N) {M : Nat} (hM : 6 * M + 7 ≤ N) (hMs : mu T s ≤ M + 1) (hst : SmR T (stM src T N N) M) :
    Runs (functionM src T N) s (fun _ s' => St T s s' 1 1 0) := by
  obtain ⟨o, r1, r2, r3⟩ := hs
  unfold functionM
  refine Runs.ask ?_
  refine Runs.mod ?_
  obtain ⟨o1, m1, n1, d1⟩ := want_St hT o [102, 110]
  generalize wantS T [102, 110] s = s1 at *
  refine Runs.ask ?_
  refine Runs.mod ?_
  obtain ⟨o2, m2, n2, d2⟩ := name_St hT o1
  generalize nameS T s1 = s2 at *
  refine Runs.mod ?_
  obtain ⟨o3, m3, n3, d3⟩ := want_St hT o2 [40]
  generalize wantS T [40] s2 = s3 at *
  try dsimp only
  refine Runs.bind (params_runs hT o3 (by omega)) ?_
  rintro ps s4 ⟨o4, m4, n4, d4⟩
  refine Runs.mod ?_
  obtain ⟨o5, m5, n5, d5⟩ := want_St hT o4 [41]
  generalize wantS T [41] s4 = s5 at *
  try dsimp only
  refine Runs.bind (ret_runs hT o5) ?_
  rintro r s6 ⟨o6, m6, n6, d6⟩
  refine Runs.bind (block_runs hT hst ⟨o6, by omega, by omega, by omega⟩ (by omega) (by omega)) ?_
  rintro y s7 ⟨o7, m7, n7, d7⟩
  exact Runs.pure ⟨o7, by omega, by omega, by omega⟩
theorem fns_runs (hT : EndT T) {N : Nat} : ∀ n (l : List Fnc) s, Rm T s → mu T s + 1 ≤ n → 6 * mu T s + 7 ≤ N → Runs (fnsR src T N n l) s (fun _ s' => St T s s' 0 0 0) := by
  intro n
  induction n with
  | zero => intro x s _ h; exact absurd h (by omega)
  | succ n ih =>
    intro l s hs hn hN
    unfold fnsR
    refine Runs.ask ?_
    try dsimp only
    by_cases hb : (decide (s.er = 0) && !(decide ((tokA T s).k = 0))) = true
    · rw [if_pos hb]
      have he : s.er = 0 := by simp at hb; exact hb.1
      have hm := mu_pos hs.1 he
      refine Runs.bind (function_runs hT hs hm hN (M := mu T s) hN (by omega) (st_runs hT N (mu T s) (by omega) hN)) ?_
      obtain ⟨o, r1, r2, r3⟩ := hs
      rintro y s2 ⟨o2, m2, n2, d2⟩
      refine (ih _ s2 ⟨o2, by omega, by omega, by omega⟩ (by omega) (by omega)).mono ?_
      rintro _ s4 ⟨o4, m4, n4, d4⟩
      exact ⟨o4, by omega, by omega, by omega⟩
    · rw [if_neg hb]
      exact Runs.pure ⟨hs.1, by omega, by omega, by omega⟩

theorem lexL_len (l : List UInt8) (p : Nat) : (lexL l p).1.length ≤ l.length + 1 := by
  refine lexL_ind (P := fun l p => (lexL l p).1.length ≤ l.length + 1) ?_ ?_ ?_ ?_ ?_ ?_ l p
  · intro p
    exact Nat.le_refl 1
  · intro c r p h0 ih
    rw [lexL_blank h0, List.length_cons]
    omega
  · intro c r p h0 h1 h2
    rw [lexL_rem_end h0 h1 h2]
    show 1 ≤ _
    omega
  · intro c r p h0 h1 h2 ih
    rw [lexL_rem h0 h1 h2]
    rw [List.length_drop] at ih
    omega
  · intro c r p h0 h1 h2
    rw [lexL_bad h0 h1 h2]
    exact Nat.zero_le _
  · intro c r p h0 h1 h2 ih
    have h3 := first_size (c :: r) (by simp) h2
    rw [lexL_tok h0 h1 h2]
    show _ + 1 ≤ _
    rw [List.length_drop] at ih
    omega
theorem lexL_endT (l : List UInt8) (hl : l.length ≤ 900) (h : (lexL l 0).2 = none) : EndT (lexL l 0).1 := by
  obtain ⟨init, h1, _⟩ := lexL_good l 0 h
  have h2 := lexL_len l 0
  rw [h1] at h2 ⊢
  refine ⟨?_, by omega, ?_⟩
  · rw [List.length_append]
    show 0 < init.length + 1
    omega
  · rw [List.length_append]
    show ((init ++ [(⟨0, [], 0 + l.length⟩ : Tok)]).getD (init.length + 1 - 1) default).k = 0
    rw [Nat.add_sub_cancel, List.getD_eq_getElem?_getD, List.getElem?_append_right (Nat.le_refl _), Nat.sub_self]
    rfl

/-- The program's parser tells something of each source. -/
theorem allP_some (src : List UInt8) (N : Nat) (hN : 6100 ≤ N) : ∃ res, allP N src = some res := by
  unfold allP
  by_cases hb : 600 < src.length
  · rw [if_pos hb]
    exact ⟨_, rfl⟩
  · rw [if_neg hb]
    cases he : (lexL src 0).2 with
    | some pe => exact ⟨_, rfl⟩
    | none =>
      have hT := lexL_endT src (by omega) he
      have hle : (lexL src 0).1.length ≤ 601 := by have := lexL_len src 0; omega
      have hmu : mu (lexL src 0).1 ⟨0, 0, 0, [], 0⟩ = (lexL src 0).1.length := rfl
      obtain ⟨fs, s', h1, h2⟩ := fns_runs (src := src) hT (N := N) N [] ⟨0, 0, 0, [], 0⟩ ⟨⟨hT.1, fun h => absurd rfl h⟩, by decide, by rw [hmu]; show (0 : Int) + _ ≤ _; omega, by rw [hmu]; show 0 + _ ≤ _; omega⟩ (by rw [hmu]; omega) (by rw [hmu]; omega)
      exact ⟨_, by show Option.map _ (fnsR src (lexL src 0).1 N N [] ⟨0, 0, 0, [], 0⟩) = _; rw [h1]; rfl⟩
end
end Go.Proofs.YtgelggdgbmldiaaGreatDoor

namespace Go.Proofs.YtgelggdgbmldiaaGreatDoor
open Go Go.RowKit Go.Shelf
set_option linter.unusedVariables false
set_option linter.unusedSimpArgs false

def tmV (m : Nat) (acc : List Int) : List Value := (List.range m).map fun (j : Nat) => .int .i64 ((acc.count (j : Int) : Nat) : Int)
theorem tmV_at {m : Nat} {acc : List Int} {j : Nat} (h : j < m) : (tmV m acc)[j]? = some (.int .i64 ((acc.count (j : Int) : Nat) : Int)) := by
  unfold tmV
  rw [List.getElem?_map, List.getElem?_range h]
  rfl
theorem tmV_len (m : Nat) (acc : List Int) : (tmV m acc).length = m := by unfold tmV; rw [List.length_map, List.length_range]
theorem tmV_set {m : Nat} {acc : List Int} {j : Nat} (h : j < m) : (tmV m acc).set j (.int .i64 ((acc.count (j : Int) : Nat) + 1 : Int)) = tmV m (acc ++ [(j : Int)]) := by
  apply List.ext_getElem?
  intro k
  by_cases hk : k < m
  · rw [tmV_at hk]
    by_cases e : j = k
    · subst e
      rw [List.getElem?_set_self (by rw [tmV_len]; exact h), List.count_append]
      simp
    · rw [List.getElem?_set_ne e, tmV_at hk, List.count_append]
      rw [List.count_eq_zero_of_not_mem (l := [(j : Int)]) (by simp; omega)]
      rfl
  · rw [List.getElem?_eq_none (by rw [List.length_set, tmV_len]; omega), List.getElem?_eq_none (by rw [tmV_len]; omega)]
theorem tmV_new (m : Nat) : madeCells #[Value.int .i64 0] m = (tmV m []).toArray := by
  apply Array.ext'
  rw [toList_madeCells_one]
  unfold tmV
  apply List.ext_getElem?
  intro k
  by_cases hk : k < m
  · simp [hk]
  · simp [hk]
theorem flat_next {nd : List Nd} {i : Nat} {n : Nd} (h : nd[i]? = some n) : (nd.take (i + 1)).flatMap Nd.l = (nd.take i).flatMap Nd.l ++ n.l := by
  obtain ⟨hi, e⟩ := List.getElem?_eq_some_iff.mp h
  rw [List.take_add_one, h, List.flatMap_append]
  simp

theorem take_next {l : List Int} {q : Nat} {x : Int} (h : l.getD q 0 = x) (hq : q < l.length) : l.take q ++ [x] = l.take (q + 1) := by
  rw [List.take_add_one, List.getElem?_eq_getElem hq]
  rw [List.getD_eq_getElem?_getD, List.getElem?_eq_getElem hq] at h
  have h : l[q] = x := h
  rw [h]
  rfl
theorem acc_le {nd : List Nd} {fs : List Fnc} (H : BelowT nd fs) {i q j : Nat} {n : Nd} (h : nd[i]? = some n) (hj : j < nd.length) : ((nd.take i).flatMap Nd.l ++ n.l.take q).count (j : Int) ≤ 1 := by
  have h1 := H.ones j hj
  have h2 : nd.flatMap Nd.l = ((nd.take i).flatMap Nd.l ++ n.l) ++ (nd.drop (i + 1)).flatMap Nd.l := by
    rw [← flat_next h, ← List.flatMap_append, List.take_append_drop]
  rw [h2, List.count_append, List.count_append] at h1
  rw [List.count_append]
  have h3 := (List.take_sublist q n.l).count_le (j : Int)
  omega
theorem asc_le : ∀ (l : List Int) (lo hi : Int), l.Pairwise (· < ·) → (∀ x ∈ l, lo ≤ x ∧ x < hi) → l.length ≤ (hi - lo).toNat := by
  intro l
  induction l with
  | nil => intro lo hi _ _; exact Nat.zero_le _
  | cons a l ih =>
    intro lo hi hp h
    rw [List.pairwise_cons] at hp
    have ha := h a List.mem_cons_self
    have h1 := ih (a + 1) hi hp.2 (fun x hx => ⟨by have := hp.1 x hx; omega, (h x (List.mem_cons_of_mem _ hx)).2⟩)
    rw [List.length_cons]
    omega
theorem Kid.at {nd : List Nd} {i : Nat} {n : Nd} (h : Kid 0 nd i n) {q : Nat} (hq : q < n.l.length) : ∃ (j : Nat) (mm : Nd), n.l.getD q 0 = (j : Int) ∧ j < i ∧ nd[j]? = some mm ∧ n.ln ≤ mm.ln := by
  obtain ⟨j, mm, e, hj, hm, hl⟩ := h.2.2 n.l[q] (List.getElem_mem hq)
  refine ⟨j, mm, ?_, hj, hm, hl⟩
  rw [List.getD_eq_getElem?_getD, List.getElem?_eq_getElem hq, ← Nat.zero_add j]
  exact e
theorem Kid.len {nd : List Nd} {i : Nat} {n : Nd} (h : Kid 0 nd i n) : n.l.length ≤ i := by
  have := asc_le n.l 0 i h.2.1 (fun x hx => by
    obtain ⟨j, mm, e, hj, hm, hl⟩ := h.2.2 x hx
    omega)
  omega
theorem Kid.asc {nd : List Nd} {i : Nat} {n : Nd} (h : Kid 0 nd i n) {q : Nat} (hq : q + 1 < n.l.length) : n.l.getD q 0 < n.l.getD (q + 1) 0 := by
  have := List.pairwise_iff_getElem.mp h.2.1 q (q + 1) (by omega) hq (Nat.lt_succ_self q)
  rw [List.getD_eq_getElem?_getD, List.getElem?_eq_getElem (by omega), List.getD_eq_getElem?_getD, List.getElem?_eq_getElem hq]
  exact this
theorem many_cases {k : Int} {n : Nat} (h : manyK k n = true) : ((k = 1 ∨ k = 2 ∨ k = 3 ∨ k = 4 ∨ k = 19) ∧ n = 0) ∨ ((k = 5 ∨ k = 6 ∨ k = 7 ∨ k = 8 ∨ k = 10 ∨ k = 11 ∨ k = 13 ∨ k = 14 ∨ k = 20) ∧ n = 1) ∨
  ((k = 9 ∨ k = 12 ∨ k = 16) ∧ n = 2) ∨ (k = 15 ∧ (n = 2 ∨ n = 3)) ∨ (k = 17 ∧ n ≤ 1) ∨ (k = 18 ∨ k = 21) := by
  unfold manyK at h
  simp only [Bool.or_eq_true, Bool.and_eq_true, decide_eq_true_eq] at h
  rcases h with ((((h | h) | h) | h) | h) | h
  · exact .inl h
  · exact .inr (.inl h)
  · exact .inr (.inr (.inl h))
  · exact .inr (.inr (.inr (.inl h)))
  · exact .inr (.inr (.inr (.inr (.inl h))))
  · exact .inr (.inr (.inr (.inr (.inr h))))

/-- What is refused bears an error. -/
theorem errs_ne (N : Nat) (src : List UInt8) (p er : Nat) (h : allP N src = some (.inl (p, er))) : er ≠ 0 := by
  unfold allP at h
  split at h
  · cases h; decide
  split at h
  · rename_i pe hl
    have h1 := Option.some.inj h
    have h2 : pe = (p, er) := Sum.inl.inj h1
    rw [h2] at hl
    have := (lexL_cut src 0 p er hl).2.2.2
    omega
  · rename_i hn
    cases hr : fnsR src (lexL src 0).1 N N [] ⟨0, 0, 0, [], 0⟩ with
    | none => rw [hr] at h; cases h
    | some r =>
      rw [hr] at h
      obtain ⟨l, s⟩ := r
      have h1 : treeP l s = .inl (p, er) := Option.some.inj h
      unfold treeP at h1
      split at h1
      · split at h1
        · cases h1; decide
        · cases h1
      · cases h1
        assumption

set_option maxRecDepth 100000 in
set_option maxHeartbeats 16000000 in
theorem short_any (s : ByteArray) (w : World) : Calls Tryz.prog 7 #[.string s] w fun e w' => (∃ t : ByteArray, t.size ≤ 700 ∧ e = .returned (.string t)) ∧ w' = w := by
  by_cases h : 700 < s.size
  · have hI : (700 : Int) < (s.size : Int) := by omega
    have hI2 : (700 : Int) ≤ (s.size : Int) := by omega
    have H := Lib.hid (show (s.extract 0 700).size ≤ 700 by rw [ByteArray.size_extract]; omega)
    clear h
    go_enter Tryz.func7, Tryz.ntmps7
    go_wp2
    go_ret
    exact ⟨⟨_, H.out, rfl⟩, rfl⟩
  · have hI : ¬ (700 : Int) < (s.size : Int) := by omega
    have hd : decide ((700 : Int) < (s.size : Int)) = false := decide_eq_false hI
    go_enter Tryz.func7, Tryz.ntmps7
    go_wp2
    go_ret
    exact ⟨⟨s, by omega, rfl⟩, rfl⟩
end Go.Proofs.YtgelggdgbmldiaaGreatDoor

namespace Go.Proofs.YtgelggdgbmldiaaGreatDoor
open Go Go.RowKit Go.Shelf
set_option linter.unusedVariables false
set_option linter.unusedSimpArgs false

abbrev Res := (Nat × Nat) ⊕ (List Nd × List Fnc)
def ndsOf : Res → List Nd | .inl _ => [] | .inr t => t.1
def fnsOf : Res → List Fnc | .inl _ => [] | .inr t => t.2
def atOf : Res → Nat | .inl p => p.1 | .inr _ => 0
def erOf : Res → Nat | .inl p => p.2 | .inr _ => 0

theorem treeR_nil (w : World) : TreeR 0 w none none [] [] := ⟨⟨[], rfl, fun h => absurd h (by simp [flatN]), fun x hx => by cases hx⟩, ⟨[], rfl, fun h => absurd h (by simp [flatF]), fun x hx => by cases hx⟩⟩
theorem treeE_all {res : Res} {e : Ending} {w' : World} (h : TreeE 0 res e w') : ∃ A c A' c', e = .returned (.tuple #[.agg #[.slice A (ndsOf res).length c, .slice A' (fnsOf res).length c'], .int .i64 (atOf res : Int), .int .i64 (erOf res : Int)]) ∧ TreeR 0 w' A A' (ndsOf res) (fnsOf res) := by
  cases res with
  | inl p => exact ⟨none, 0, none, 0, h, treeR_nil w'⟩
  | inr t =>
    obtain ⟨A, c, A', c', h1, h2⟩ := h
    exact ⟨A, c, A', c', h1, h2⟩

theorem below_len : ∀ (l : List Int) (b i : Nat), l.Pairwise (· < ·) → (∀ x ∈ l, ∃ j : Nat, x = (j : Int) ∧ b ≤ j ∧ j < i) → l.length ≤ i - b := by
  intro l
  induction l with
  | nil => intro b i _ _; exact Nat.zero_le _
  | cons a l ih =>
    intro b i hp hx
    obtain ⟨j, e, h1, h2⟩ := hx a (List.mem_cons_self ..)
    have hp2 := List.pairwise_cons.1 hp
    have := ih (j + 1) i hp2.2 (fun x hxm => by
      obtain ⟨k, e2, h3, h4⟩ := hx x (List.mem_cons_of_mem _ hxm)
      have h5 := hp2.1 x hxm
      exact ⟨k, e2, by omega, h4⟩)
    rw [List.length_cons]
    omega
structure Fit (nd : List Nd) (fs : List Fnc) : Prop where
  nds : nd.length ≤ 300
  kids : ∀ x ∈ nd, x.l.length ≤ 300
  fns : fs.length ≤ 6
  prs : ∀ x ∈ fs, x.ps.length ≤ 3
theorem fit_of {N : Nat} {src : List UInt8} {res : Res} (h : allP N src = some res) : Fit (ndsOf res) (fnsOf res) := by
  cases res with
  | inl p => exact ⟨Nat.zero_le _, fun x hx => (by cases hx), Nat.zero_le _, fun x hx => (by cases hx)⟩
  | inr t =>
    obtain ⟨nd, fs⟩ := t
    have hB := belowT_of N src nd fs h
    refine ⟨hB.many, fun x hx => ?_, hB.fns, ?_⟩
    · obtain ⟨i, hi, e⟩ := List.getElem_of_mem hx
      obtain ⟨_, h1, h2⟩ := hB.kids i x ((List.getElem?_eq_getElem (show i < nd.length from hi)).trans (congrArg some e))
      have := below_len x.l 0 i h1 (fun y hy => by
        obtain ⟨j, m, e1, e2, _, _⟩ := h2 y hy
        exact ⟨j, by rw [e1]; omega, Nat.zero_le _, e2⟩)
      have h3 := hB.many
      have hi : i < nd.length := hi
      omega
    · unfold allP at h
      split at h
      · cases h
      split at h
      · cases h
      cases hr : fnsR src (lexL src 0).1 N N [] ⟨0, 0, 0, [], 0⟩ with
      | none => rw [hr] at h; cases h
      | some r =>
        rw [hr] at h
        obtain ⟨l, s⟩ := r
        have h1 : treeP l s = .inr (nd, fs) := Option.some.inj h
        unfold treeP at h1
        split at h1
        · split at h1
          · cases h1
          · rename_i hc
            cases h1
            intro x hx
            simp only [Bool.or_eq_true, not_or] at hc
            have := hc.2
            rw [List.any_eq_true] at this
            by_cases h3 : 3 < x.ps.length
            · exact absurd ⟨x, hx, decide_eq_true h3⟩ this
            · omega
        · cases h1
end Go.Proofs.YtgelggdgbmldiaaGreatDoor

namespace Go.Proofs.YtgelggdgbmldiaaGreatDoor
open Go Go.RowKit Go.Shelf
set_option linter.unusedVariables false
set_option linter.unusedSimpArgs false

/-- A source, to the program's parser. -/
theorem src_any (s : ByteArray) (hs : s.size ≤ 1000) (res : Res) (h : allP 6100 s.data.toList = some res) (w : World) (he : ErrW w) : Calls Tryz.prog 8 #[.string s] w fun e w' => ∃ A c A' c', e = .returned (.tuple #[.agg #[.slice A (ndsOf res).length c, .slice A' (fnsOf res).length c'], .int .i64 (atOf res : Int), .int .i64 (erOf res : Int)]) ∧ TreeR 0 w' A A' (ndsOf res) (fnsOf res) ∧ Keeps (fun _ => False) w w' :=
  (pall_any s hs 6100 (by omega) res h w he).mono fun e w' ⟨h1, k⟩ => by
    obtain ⟨A, c, A', c', h2, h3⟩ := treeE_all h1
    exact ⟨A, c, A', c', h2, h3, k⟩
/-- What a lexer tells of a source. -/
def resX (l : List UInt8) : List Tok × Nat × Nat := if 600 < l.length then ([], 0, 4) else match (lexL l 0).2 with | none => ((lexL l 0).1, 0, 0) | some pe => ([], pe.1, pe.2)
theorem rlex_any (s : ByteArray) (hs : s.size ≤ 1000) (w : World) : Calls Tryz.prog 13 #[.string s] w fun e w' => ∃ A c, e = .returned (.tuple #[.slice A (resX s.data.toList).1.length c, .int .i64 ((resX s.data.toList).2.1 : Int), .int .i64 ((resX s.data.toList).2.2 : Int)]) ∧ RdT w' A (resX s.data.toList).1 ∧ Keeps (fun _ => False) w w' := by
  refine (rall_any s hs w).mono fun e w' ⟨h1, hk⟩ => ?_
  unfold resX
  by_cases hb : 600 < s.data.toList.length
  · rw [if_pos hb] at h1 ⊢
    exact ⟨none, 0, h1, fun h => absurd h (by simp), hk⟩
  · rw [if_neg hb] at h1 ⊢
    cases hl : (lexL s.data.toList 0).2 with
    | none =>
      rw [hl] at h1
      obtain ⟨A, c, h2, h3⟩ := h1
      exact ⟨A, c, h2, own_rdT h3.1 rfl, hk⟩
    | some pe =>
      rw [hl] at h1
      exact ⟨none, 0, h1, fun h => absurd h (by simp), hk⟩

end Go.Proofs.YtgelggdgbmldiaaGreatDoor
