/-
  Layer 2: the data of the program's parser comes to an end. Written by an AI agent.
  Layer 1: what stays of tokens where a source is cut, shifted, or put together. Written by an AI agent.
-/
import Derived.Lib.Bytealg
import Derived.Test.YtgelggdgbmldiaaDoorMcaa
namespace Go.Proofs.YtgelggdgbmldiaaDoor
set_option linter.unusedVariables false
set_option linter.unusedSimpArgs false
def Runs {α : Type} (m : PM α) (s : PS) (Q : α → PS → Prop) : Prop := ∃ a s', m s = some (a, s') ∧ Q a s'
theorem Runs.bind {α β : Type} {m : PM α} {f : α → PM β} {s : PS} {R : α → PS → Prop} {Q : β → PS → Prop} (h : Runs m s R) (h2 : ∀ a s', R a s' → Runs (f a) s' Q) : Runs (m >>= f) s Q := by
  obtain ⟨a, s1, h1, hr⟩ := h
  obtain ⟨b, s2, h3, hq⟩ := h2 a s1 hr
  exact ⟨b, s2, (bind_in h1).trans h3, hq⟩
theorem Runs.pure {α : Type} {a : α} {s : PS} {Q : α → PS → Prop} (h : Q a s) : Runs (pure a) s Q := ⟨a, s, rfl, h⟩
theorem Runs.ask {α β : Type} {g : PS → α} {f : α → PM β} {s : PS} {Q : β → PS → Prop} (h : Runs (f (g s)) s Q) : Runs (ask g >>= f) s Q :=
  Runs.bind (R := fun a s' => a = g s ∧ s' = s) ⟨g s, s, rfl, rfl, rfl⟩ (by rintro a s' ⟨rfl, rfl⟩; exact h)
theorem Runs.mod {β : Type} {g : PS → PS} {f : Unit → PM β} {s : PS} {Q : β → PS → Prop} (h : Runs (f ()) (g s) Q) : Runs (mod g >>= f) s Q :=
  Runs.bind (R := fun a s' => s' = g s) ⟨(), g s, rfl, rfl⟩ (by rintro a s' rfl; exact h)
theorem Runs.mono {α : Type} {m : PM α} {s : PS} {Q R : α → PS → Prop} (h : Runs m s Q) (k : ∀ a s', Q a s' → R a s') : Runs m s R := by
  obtain ⟨a, s1, h1, hq⟩ := h
  exact ⟨a, s1, h1, k _ _ hq⟩
/-- The tokens end with one of no kind. -/
def EndT (T : List Tok) : Prop := 0 < T.length ∧ T.length ≤ 1000 ∧ (T.getD (T.length - 1) default).k = 0
section
variable (T : List Tok)
def mu (s : PS) : Nat := if s.er = 0 then T.length - s.i else 0
def Okk (s : PS) : Prop := s.i < T.length ∧ (s.er ≠ 0 → s.i = T.length - 1)
def Rm (s : PS) : Prop := Okk T s ∧ 0 ≤ s.dp ∧ s.dp + mu T s ≤ 900000 ∧ s.nd.length + 10 * mu T s ≤ 90000
def St (s s' : PS) (d c : Nat) (e : Int) : Prop := Okk T s' ∧ mu T s' ≤ mu T s - d ∧ s'.nd.length + 10 * mu T s' ≤ s.nd.length + 10 * (mu T s - d) + c ∧ s'.dp = s.dp + e
variable {T}
theorem mu_pos {s : PS} (h : Okk T s) (he : s.er = 0) : 1 ≤ mu T s := by
  unfold mu
  rw [if_pos he]
  have := h.1
  omega
theorem some_tok (hT : EndT T) {s : PS} (h : Okk T s) (hk : (tokA T s).k ≠ 0) : s.er = 0 ∧ s.i < T.length - 1 := by
  have h0 : s.i ≠ T.length - 1 := fun hi => hk (by unfold tokA; rw [hi]; exact hT.2.2)
  have h1 := h.1
  refine ⟨?_, by omega⟩
  by_cases he : s.er = 0
  · exact he
  · exact absurd (h.2 he) h0
theorem isS_k {ts : List (List UInt8)} {s : PS} (h : isS T ts s = true) : (tokA T s).k ≠ 0 := by
  intro h0
  simp [isS, h0] at h
theorem callsS_k {s : PS} (h : callsS T s = true) : (tokA T s).k ≠ 0 := by
  intro h0
  simp [callsS, h0] at h
theorem next_St (hT : EndT T) {s : PS} (h : Okk T s) (hk : (tokA T s).k ≠ 0) : 2 ≤ mu T s ∧ mu T (nextS T s) + 1 = mu T s ∧ St T s (nextS T s) 1 0 0 := by
  obtain ⟨he, hi⟩ := some_tok hT h hk
  have hm : mu T s = T.length - s.i := if_pos he
  have hn : nextS T s = { s with i := s.i + 1 } := if_pos hi
  rw [hn]
  have hm' : mu T { s with i := s.i + 1 } = T.length - (s.i + 1) := if_pos he
  refine ⟨by omega, by omega, ⟨?_, fun hh => absurd he hh⟩, ?_, ?_, ?_⟩
  · show s.i + 1 < T.length
    omega
  · omega
  · show s.nd.length + _ ≤ _
    omega
  · show s.dp = _
    omega
theorem fail_St {s : PS} (hT : EndT T) (h : Okk T s) {e : Nat} (hx : e ≠ 0) : St T s (failS T e s) 1 0 0 := by
  by_cases he : s.er = 0
  · have hm := mu_pos h he
    have hn : failS T e s = { s with pl := (tokA T s).p, er := e, i := T.length - 1 } := if_pos he
    rw [hn]
    have hm' : mu T { s with pl := (tokA T s).p, er := e, i := T.length - 1 } = 0 := if_neg hx
    have h0 := hT.1
    refine ⟨⟨?_, fun _ => rfl⟩, by omega, ?_, ?_⟩
    · show T.length - 1 < T.length
      omega
    · show s.nd.length + _ ≤ _
      omega
    · show s.dp = _
      omega
  · have hn : failS T e s = s := if_neg he
    rw [hn]
    have hm : mu T s = 0 := if_neg he
    exact ⟨h, by omega, by omega, by omega⟩
theorem St.trans {s s1 s2 : PS} {d d' c c' : Nat} {e e' : Int} (h : St T s s1 d c e) (h2 : St T s1 s2 d' c' e') : St T s s2 d (c + c') (e + e') := by
  obtain ⟨a1, a2, a3, a4⟩ := h
  obtain ⟨b1, b2, b3, b4⟩ := h2
  exact ⟨b1, by omega, by omega, by omega⟩
theorem want_St (hT : EndT T) {s : PS} (h : Okk T s) (x : List UInt8) : St T s (wantS T x s) 1 0 0 := by
  unfold wantS
  by_cases hb : isS T [x] s = true
  · rw [if_pos hb]
    exact (next_St hT h (isS_k hb)).2.2
  · rw [if_neg hb]
    exact fail_St hT h (by decide)
theorem name_St (hT : EndT T) {s : PS} (h : Okk T s) : St T s (nameS T s) 1 0 0 := by
  unfold nameS
  by_cases hb : (tokA T s).k = 3
  · rw [if_pos hb]
    exact (next_St hT h (by omega)).2.2
  · rw [if_neg hb]
    exact fail_St hT h (by decide)
theorem open_St (hT : EndT T) {s : PS} (h : Okk T s) (x : List UInt8) : St T s (openS T x s) 1 0 0 := by
  unfold openS
  by_cases hb : (isS T [x] s && decide (16 ≤ s.dp)) = true
  · rw [if_pos hb]
    have h1 := fail_St hT h (e := 21) (by decide)
    exact h1.trans (want_St hT h1.1 x)
  · rw [if_neg hb]
    exact want_St hT h x
theorem next_nd (s : PS) : (nextS T s).nd = s.nd := by
  unfold nextS
  split <;> rfl
theorem fail_nd (e : Nat) (s : PS) : (failS T e s).nd = s.nd := by
  unfold failS
  split <;> rfl
theorem want_nd (x : List UInt8) (s : PS) : (wantS T x s).nd = s.nd := by
  unfold wantS
  split
  · exact next_nd s
  · exact fail_nd 20 s
theorem open_nd (x : List UInt8) (s : PS) : (openS T x s).nd = s.nd := by
  unfold openS
  rw [want_nd]
  split
  · exact fail_nd 21 s
  · rfl
theorem deep_runs {s : PS} (d : Int) (h : -900000 ≤ s.dp ∧ s.dp ≤ 900001) : Runs (deepS d) s (fun _ s' => s' = { s with dp := s.dp + d }) :=
  ⟨(), _, if_pos (by omega), rfl⟩
theorem deep_St {s : PS} (d : Int) (h : Okk T s) : St T s { s with dp := s.dp + d } 0 0 d := ⟨h, Nat.le_refl _, Nat.le_refl _, rfl⟩
theorem node_runs {s : PS} (h : Rm T s ∨ (Okk T s ∧ s.nd.length ≤ 99000)) (n : Nd) (l : List Int) : Runs (nodeM n l) s (fun _ s' => St T s s' 0 1 0) := by
  have h0 : Okk T s ∧ s.nd.length ≤ 99000 := by
    rcases h with h | h
    · obtain ⟨h1, h2, h3, h4⟩ := h
      exact ⟨h1, by omega⟩
    · exact h
  refine ⟨_, _, if_pos (by omega), h0.1, Nat.le_refl _, ?_, ?_⟩
  · show (s.nd ++ [_]).length + _ ≤ _
    rw [List.length_append]
    show s.nd.length + 1 + 10 * mu T s ≤ _
    omega
  · show s.dp = _
    omega
theorem open_runs (hT : EndT T) {s : PS} (h : Okk T s) (hd : -900000 ≤ s.dp ∧ s.dp ≤ 900001) (x : List UInt8) : Runs (openM T x) s (fun _ s' => St T s s' 1 0 1 ∧ s'.nd.length = s.nd.length) := by
  unfold openM
  refine Runs.mod ?_
  have h1 := open_St hT h x
  have h4 := h1.2.2.2
  refine (deep_runs 1 (by omega)).mono ?_
  rintro a s' rfl
  refine ⟨h1.trans (deep_St 1 h1.1), ?_⟩
  show (openS T x s).nd.length = _
  rw [open_nd]
theorem shut_runs (hT : EndT T) {s : PS} (h : Okk T s) (hd : -900000 ≤ s.dp ∧ s.dp ≤ 900001) (x : List UInt8) : Runs (shutM T x) s (fun _ s' => St T s s' 1 0 (-1)) := by
  unfold shutM
  refine Runs.mod ?_
  have h1 := want_St hT h x
  have h4 := h1.2.2.2
  refine (deep_runs (-1) (by omega)).mono ?_
  rintro a s' rfl
  exact h1.trans (deep_St (-1) h1.1)
end
end Go.Proofs.YtgelggdgbmldiaaDoor

/-! Expressions. -/
namespace Go.Proofs.YtgelggdgbmldiaaDoor
set_option linter.unusedVariables false
set_option linter.unusedSimpArgs false
section
variable {src : List UInt8} {T : List Tok}
theorem inside_runs (hT : EndT T) {ex : PM Int} {a b : List UInt8} {s : PS} (hs : Rm T s) (hm : 1 ≤ mu T s)
    (hx : ∀ s1, Rm T s1 → mu T s1 + 1 ≤ mu T s → Runs ex s1 (fun _ s' => St T s1 s' 1 1 0)) : Runs (insideM T ex a b) s (fun _ s' => St T s s' 1 1 0) := by
  obtain ⟨o, r1, r2, r3⟩ := hs
  unfold insideM
  refine Runs.bind (open_runs hT o (by omega) a) ?_
  rintro _ s1 ⟨⟨o1, m1, n1, d1⟩, e1⟩
  refine Runs.bind (hx s1 ⟨o1, by omega, by omega, by omega⟩ (by omega)) ?_
  rintro x s2 ⟨o2, m2, n2, d2⟩
  refine Runs.bind (shut_runs hT o2 (by omega) b) ?_
  rintro _ s3 ⟨o3, m3, n3, d3⟩
  exact Runs.pure ⟨o3, by omega, by omega, by omega⟩
theorem variable_runs (hT : EndT T) {ex : PM Int} {s : PS} (ln : Int) (hs : Rm T s)
    (hx : ∀ s1, Rm T s1 → mu T s1 + 1 ≤ mu T s → Runs ex s1 (fun _ s' => St T s1 s' 1 1 0)) : Runs (variableM T ex ln) s (fun _ s' => St T s s' 1 1 0) := by
  obtain ⟨o, r1, r2, r3⟩ := hs
  unfold variableM
  refine Runs.ask ?_
  refine Runs.mod ?_
  obtain ⟨o1, m1, n1, d1⟩ := name_St hT o
  generalize nameS T s = s1 at *
  refine Runs.ask ?_
  try dsimp only
  by_cases hb : isS T [[91]] s1 = true
  · rw [if_pos hb]
    have hn := (next_St hT o1 (isS_k hb)).1
    refine Runs.bind (inside_runs hT ⟨o1, by omega, by omega, by omega⟩ (by omega) (fun s2 h2 h3 => hx s2 h2 (by omega))) ?_
    rintro y s2 ⟨o2, m2, n2, d2⟩
    refine (node_runs (.inr ⟨o2, by omega⟩) _ _).mono ?_
    rintro _ s3 ⟨o3, m3, n3, d3⟩
    exact ⟨o3, by omega, by omega, by omega⟩
  · rw [if_neg hb]
    refine (node_runs (.inr ⟨o1, by omega⟩) _ _).mono ?_
    rintro _ s3 ⟨o3, m3, n3, d3⟩
    exact ⟨o3, by omega, by omega, by omega⟩
/-- One token on, then a node. -/
theorem next_node (hT : EndT T) {s : PS} (hs : Rm T s) (hk : (tokA T s).k ≠ 0) (n : Nd) (l : List Int) : Runs (do mod (nextS T); nodeM n l) s (fun _ s' => St T s s' 1 1 0) := by
  obtain ⟨o, r1, r2, r3⟩ := hs
  obtain ⟨hn, hn1, o1, m1, n1, d1⟩ := next_St hT o hk
  refine Runs.mod ?_
  refine (node_runs (.inr ⟨o1, by omega⟩) _ _).mono ?_
  rintro _ s3 ⟨o3, m3, n3, d3⟩
  exact ⟨o3, by omega, by omega, by omega⟩
theorem atom_runs (hT : EndT T) {ex : PM Int} {s : PS} (hs : Rm T s)
    (hx : ∀ s1, Rm T s1 → mu T s1 + 1 ≤ mu T s → Runs ex s1 (fun _ s' => St T s1 s' 1 1 0)) : Runs (atomM src T ex) s (fun _ s' => St T s s' 1 1 0) := by
  unfold atomM
  refine Runs.ask ?_
  refine Runs.ask ?_
  try dsimp only
  by_cases h1 : (tokA T s).k = 1
  · rw [if_pos h1]
    exact next_node hT hs (by omega) _ _
  rw [if_neg h1]
  by_cases h2 : (tokA T s).k = 2
  · rw [if_pos h2]
    exact next_node hT hs (by omega) _ _
  rw [if_neg h2]
  refine Runs.ask ?_
  try dsimp only
  by_cases hb : isS T [[116, 114, 117, 101], [102, 97, 108, 115, 101]] s = true
  · rw [if_pos hb]
    exact next_node hT hs (isS_k hb) _ _
  rw [if_neg hb]
  clear hb
  refine Runs.ask ?_
  try dsimp only
  by_cases hb : isS T [[108, 101, 110]] s = true
  · rw [if_pos hb]
    obtain ⟨o, r1, r2, r3⟩ := hs
    obtain ⟨hn, hn1, o1, m1, n1, d1⟩ := next_St hT o (isS_k hb)
    refine Runs.mod ?_
    try dsimp only
    generalize nextS T s = s1 at *
    refine Runs.bind (inside_runs hT ⟨o1, by omega, by omega, by omega⟩ (by omega) (fun s2 h2 h3 => hx s2 h2 (by omega))) ?_
    rintro y s2 ⟨o2, m2, n2, d2⟩
    refine (node_runs (.inr ⟨o2, by omega⟩) _ _).mono ?_
    rintro _ s3 ⟨o3, m3, n3, d3⟩
    exact ⟨o3, by omega, by omega, by omega⟩
  rw [if_neg hb]
  clear hb
  refine Runs.ask ?_
  try dsimp only
  by_cases hb : isS T [[40]] s = true
  · rw [if_pos hb]
    have hn := (next_St hT hs.1 (isS_k hb)).1
    exact inside_runs hT hs (by omega) hx
  rw [if_neg hb]
  exact variable_runs hT _ hs hx
theorem sign_runs (hT : EndT T) {fac : PM Int} {s : PS} (hs : Rm T s) (hm : 2 ≤ mu T s) (x : List UInt8) (n : Nd)
    (hf : ∀ s1, Rm T s1 → mu T s1 + 1 ≤ mu T s → Runs fac s1 (fun _ s' => St T s1 s' 1 1 0)) :
    Runs (do openM T x; let y ← fac; deepS (-1); nodeM n [y]) s (fun _ s' => St T s s' 1 1 0) := by
  obtain ⟨o, r1, r2, r3⟩ := hs
  refine Runs.bind (open_runs hT o (by omega) x) ?_
  rintro _ s1 ⟨⟨o1, m1, n1, d1⟩, e1⟩
  refine Runs.bind (hf s1 ⟨o1, by omega, by omega, by omega⟩ (by omega)) ?_
  rintro y s2 ⟨o2, m2, n2, d2⟩
  refine Runs.bind (deep_runs (-1) (by omega)) ?_
  rintro _ s3 rfl
  obtain ⟨o3, m3, n3, d3⟩ := deep_St (-1) o2
  generalize ({ s2 with dp := s2.dp + -1 } : PS) = s3 at *
  refine (node_runs (.inr ⟨o3, by omega⟩) _ _).mono ?_
  rintro _ s4 ⟨o4, m4, n4, d4⟩
  exact ⟨o4, by omega, by omega, by omega⟩
theorem factor_runs (hT : EndT T) {fac ex : PM Int} {s : PS} (hs : Rm T s)
    (hf : ∀ s1, Rm T s1 → mu T s1 + 1 ≤ mu T s → Runs fac s1 (fun _ s' => St T s1 s' 1 1 0))
    (hx : ∀ s1, Rm T s1 → mu T s1 + 1 ≤ mu T s → Runs ex s1 (fun _ s' => St T s1 s' 1 1 0)) : Runs (factorM src T fac ex) s (fun _ s' => St T s s' 1 1 0) := by
  unfold factorM
  refine Runs.ask ?_
  refine Runs.ask ?_
  refine Runs.ask ?_
  try dsimp only
  by_cases hb : isS T [[33]] s = true
  · rw [if_pos hb]
    exact sign_runs hT hs (next_St hT hs.1 (isS_k hb)).1 _ _ hf
  rw [if_neg hb]
  clear hb
  refine Runs.ask ?_
  try dsimp only
  by_cases hb : isS T [[45]] s = true
  · rw [if_pos hb]
    exact sign_runs hT hs (next_St hT hs.1 (isS_k hb)).1 _ _ hf
  rw [if_neg hb]
  exact atom_runs hT hs hx
theorem chain_runs (hT : EndT T) {lv : Nat} {sub : PM Int} (ln : Int) (M : Nat)
    (hsub : ∀ s1, Rm T s1 → mu T s1 + 1 ≤ M → Runs sub s1 (fun _ s' => St T s1 s' 1 1 0)) :
    ∀ n (x : Int) s, Okk T s → 0 ≤ s.dp → s.dp + mu T s ≤ 900000 → s.nd.length + 10 * mu T s ≤ 90001 → mu T s ≤ M → mu T s + 1 ≤ n → Runs (chainR T lv sub ln n x) s (fun _ s' => St T s s' 0 0 0) := by
  intro n
  induction n with
  | zero => intro x s _ _ _ _ _ h; exact absurd h (by omega)
  | succ n ih =>
    intro x s o r1 r2 r3 hM hn
    unfold chainR
    refine Runs.ask ?_
    try dsimp only
    by_cases hb : isS T (signsL lv) s = true
    · rw [if_pos hb]
      refine Runs.ask ?_
      refine Runs.mod ?_
      obtain ⟨hn, hn1, o1, m1, n1, d1⟩ := next_St hT o (isS_k hb)
      try dsimp only
      generalize nextS T s = s1 at *
      refine Runs.bind (hsub s1 ⟨o1, by omega, by omega, by omega⟩ (by omega)) ?_
      rintro y s2 ⟨o2, m2, n2, d2⟩
      refine Runs.bind (node_runs (.inr ⟨o2, by omega⟩) _ _) ?_
      rintro z s3 ⟨o3, m3, n3, d3⟩
      by_cases hl : lv = 2
      · rw [if_pos hl]
        exact Runs.pure ⟨o3, by omega, by omega, by omega⟩
      · rw [if_neg hl]
        refine (ih z s3 o3 (by omega) (by omega) (by omega) (by omega) (by omega)).mono ?_
        rintro _ s4 ⟨o4, m4, n4, d4⟩
        exact ⟨o4, by omega, by omega, by omega⟩
    · rw [if_neg hb]
      exact Runs.pure ⟨o, by omega, by omega, by omega⟩
theorem ex_runs (hT : EndT T) : ∀ n lv s, lv ≤ 5 → Rm T s → 6 * mu T s + 6 - lv ≤ n → Runs (exM src T n lv) s (fun _ s' => St T s s' 1 1 0) := by
  intro n
  induction n with
  | zero => intro lv s h1 _ h; exact absurd h (by omega)
  | succ n ih =>
    intro lv s hl hs hn
    unfold exM
    by_cases h5 : lv = 5
    · rw [if_pos h5]
      exact factor_runs hT hs (fun s1 h1 h2 => ih 5 s1 (by omega) h1 (by omega)) (fun s1 h1 h2 => ih 0 s1 (by omega) h1 (by omega))
    · rw [if_neg h5]
      refine Runs.ask ?_
      refine Runs.bind (ih (lv + 1) s (by omega) hs (by omega)) ?_
      obtain ⟨o, r1, r2, r3⟩ := hs
      rintro x s1 ⟨o1, m1, n1, d1⟩
      refine (chain_runs hT _ (mu T s) (fun s2 h2 h3 => ih (lv + 1) s2 (by omega) h2 (by omega)) n x s1 o1 (by omega) (by omega) (by omega) (by omega) (by omega)).mono ?_
      rintro _ s2 ⟨o2, m2, n2, d2⟩
      exact ⟨o2, by omega, by omega, by omega⟩
end
end Go.Proofs.YtgelggdgbmldiaaDoor

namespace Go.Proofs.YtgelggdgbmldiaaDoor
set_option linter.unusedVariables false
set_option linter.unusedSimpArgs false
/-- How a source goes on. -/
theorem lexL_ind {P : List UInt8 → Nat → Prop} (hnil : ∀ p, P [] p) (hblk : ∀ c r p, blk c = true → P r (p + 1) → P (c :: r) p)
    (hend : ∀ c r p, blk c = false → isRem (c :: r) = true → runL (fun d => !decide (d = 10)) (c :: r) = (c :: r).length → P (c :: r) p)
    (hrem : ∀ c r p, blk c = false → isRem (c :: r) = true → ¬ runL (fun d => !decide (d = 10)) (c :: r) = (c :: r).length → P ((c :: r).drop (runL (fun d => !decide (d = 10)) (c :: r))) (p + runL (fun d => !decide (d = 10)) (c :: r)) → P (c :: r) p)
    (hbad : ∀ c r p, blk c = false → isRem (c :: r) = false → ¬ (firstL (c :: r)).2.2 = 0 → P (c :: r) p)
    (htok : ∀ c r p, blk c = false → isRem (c :: r) = false → (firstL (c :: r)).2.2 = 0 → P ((c :: r).drop (firstL (c :: r)).2.1) (p + (firstL (c :: r)).2.1) → P (c :: r) p) (l : List UInt8) (p : Nat) : P l p := by
  obtain ⟨n, hn⟩ : ∃ n, n = l.length := ⟨_, rfl⟩
  induction n using Nat.strongRecOn generalizing l p with
  | ind n ih =>
    cases l with
    | nil => exact hnil p
    | cons c r =>
      rw [List.length_cons] at hn
      cases h0 : blk c with
      | true => exact hblk c r p h0 (ih r.length (by omega) r _ rfl)
      | false =>
        cases h1 : isRem (c :: r) with
        | true =>
          have h2 := rem_size _ h1
          by_cases h3 : runL (fun d => !decide (d = 10)) (c :: r) = (c :: r).length
          · exact hend c r p h0 h1 h3
          · exact hrem c r p h0 h1 h3 (ih _ (by rw [List.length_drop, List.length_cons]; omega) _ _ rfl)
        | false =>
          by_cases h3 : (firstL (c :: r)).2.2 = 0
          · have h4 := first_size (c :: r) (by simp) h3
            exact htok c r p h0 h1 h3 (ih _ (by rw [List.length_drop, List.length_cons]; omega) _ _ rfl)
          · exact hbad c r p h0 h1 h3
theorem isTwo_take (l : List UInt8) (n : Nat) (hn : 2 ≤ n) : isTwo (l.take n) = isTwo l := by
  rw [Bool.eq_iff_iff]
  unfold isTwo
  rw [List.any_eq_true, List.any_eq_true]
  constructor
  · rintro ⟨t, ht, hp⟩
    exact ⟨t, ht, List.isPrefixOf_iff_prefix.2 ((List.isPrefixOf_iff_prefix.1 hp).trans (List.take_prefix _ _))⟩
  · rintro ⟨t, ht, hp⟩
    have h5 : t.length = 2 := by
      simp only [twosL, List.mem_cons, List.not_mem_nil, or_false] at ht
      rcases ht with rfl | rfl | rfl | rfl | rfl <;> rfl
    exact ⟨t, ht, List.isPrefixOf_iff_prefix.2 (List.prefix_take_iff.2 ⟨List.isPrefixOf_iff_prefix.1 hp, by omega⟩)⟩
theorem isTwo_of_take {l : List UInt8} {n : Nat} (h : isTwo (l.take n) = true) : isTwo l = true := by
  unfold isTwo at h ⊢
  rw [List.any_eq_true] at h ⊢
  obtain ⟨t, ht, hp⟩ := h
  exact ⟨t, ht, List.isPrefixOf_iff_prefix.2 ((List.isPrefixOf_iff_prefix.1 hp).trans (List.take_prefix _ _))⟩
theorem isRem_of_take {l : List UInt8} {n : Nat} (h : isRem (l.take n) = true) : isRem l = true :=
  List.isPrefixOf_iff_prefix.2 ((List.isPrefixOf_iff_prefix.1 h).trans (List.take_prefix _ _))
theorem isRem_take {l : List UInt8} {n : Nat} (hn : 2 ≤ n) (h : isRem l = true) : isRem (l.take n) = true :=
  List.isPrefixOf_iff_prefix.2 (List.prefix_take_iff.2 ⟨List.isPrefixOf_iff_prefix.1 h, hn⟩)
/-- A token is the same where the source is cut behind it. -/
theorem first_take (l : List UInt8) (n : Nat) (hl : l ≠ []) (h : (firstL l).2.2 = 0) (hn : (firstL l).2.1 ≤ n) : firstL (l.take n) = firstL l := by
  have hs := first_size l hl h
  obtain ⟨c, r, rfl⟩ := List.exists_cons_of_ne_nil hl
  obtain ⟨m, rfl⟩ : ∃ m, n = m + 1 := ⟨n - 1, by omega⟩
  rw [List.take_succ_cons]
  rw [firstL_cons] at h hn hs
  rw [firstL_cons, firstL_cons]
  by_cases h1 : dig c = true
  · rw [if_pos h1] at h hn hs ⊢
    rw [if_pos h1]
    unfold numberL at h hn ⊢
    split at h
    · rename_i hc
      rw [if_pos hc] at hn
      have hn : runL dig (c :: r) ≤ m + 1 := hn
      have e := runL_take dig (c :: r) (m + 1) hn
      rw [List.take_succ_cons] at e
      rw [e, ← List.take_succ_cons, List.take_take, Nat.min_eq_left hn]
    · cases h
  · rw [if_neg h1] at h hn hs ⊢
    rw [if_neg h1]
    by_cases h2 : ltr c = true
    · rw [if_pos h2] at h hn hs ⊢
      rw [if_pos h2]
      unfold nameL at h hn ⊢
      have hn : runL nmc (c :: r) ≤ m + 1 := by
        split at h
        · rename_i hc; rw [if_pos hc] at hn; exact hn
        · rename_i hc
          rw [if_neg hc] at hn
          split at h
          · cases h
          · rename_i hc; rw [if_neg hc] at hn; exact hn
      have e := runL_take nmc (c :: r) (m + 1) hn
      rw [List.take_succ_cons] at e
      rw [e, ← List.take_succ_cons, List.take_take, Nat.min_eq_left hn]
    · rw [if_neg h2] at h hn hs ⊢
      rw [if_neg h2]
      by_cases h3 : c = 34
      · rw [if_pos h3] at h hn hs ⊢
        rw [if_pos h3]
        unfold textL at h hn ⊢
        split at h
        · rename_i hc
          rw [if_pos hc] at hn
          split at h
          · cases h
          · rename_i hd
            rw [if_neg hd] at hn
            have hn : runL txc r + 2 ≤ m + 1 := hn
            have e := runL_take txc r m (by omega)
            rw [e, List.getElem?_take, if_pos (show runL txc r < m by omega)]
        · cases h
      · rw [if_neg h3] at h hn hs ⊢
        rw [if_neg h3]
        rw [signL_cons] at h hn
        rw [signL_cons, signL_cons]
        by_cases h4 : isTwo (c :: r) = true
        · rw [if_pos h4] at hn
          have hn : 2 ≤ m + 1 := hn
          have e := isTwo_take (c :: r) (m + 1) hn
          rw [List.take_succ_cons] at e
          rw [e]
        · rw [if_neg h4]
          rw [if_neg (fun h => h4 (isTwo_of_take (n := m + 1) (by rw [List.take_succ_cons]; exact h)))]
theorem first_errs (l : List UInt8) (h : ¬ (firstL l).2.2 = 0) : (firstL l).2.2 = 10 ∨ (firstL l).2.2 = 11 ∨ (firstL l).2.2 = 12 ∨ (firstL l).2.2 = 13 ∨ (firstL l).2.2 = 4 := by
  unfold firstL numberL nameL textL signL at h ⊢
  repeat' split
  all_goals simp_all
/-- Where a source fails, it has tokens ahead. -/
theorem lexL_cut (l : List UInt8) (p : Nat) : ∀ q e, (lexL l p).2 = some (q, e) → p ≤ q ∧ q < p + l.length ∧ (lexL (l.take (q - p)) p).2 = none ∧ (e = 10 ∨ e = 11 ∨ e = 12 ∨ e = 13 ∨ e = 4) := by
  refine lexL_ind (P := fun l p => ∀ q e, (lexL l p).2 = some (q, e) → p ≤ q ∧ q < p + l.length ∧ (lexL (l.take (q - p)) p).2 = none ∧ (e = 10 ∨ e = 11 ∨ e = 12 ∨ e = 13 ∨ e = 4)) ?_ ?_ ?_ ?_ ?_ ?_ l p
  · intro p q e h
    rw [lexL_nil] at h
    cases h
  · intro c r p h ih q e hq
    rw [lexL_blank h] at hq
    obtain ⟨h1, h2, h3, h4⟩ := ih q e hq
    refine ⟨by omega, by rw [List.length_cons]; omega, ?_, h4⟩
    obtain ⟨m, hm⟩ : ∃ m, q - p = m + 1 := ⟨q - p - 1, by omega⟩
    rw [hm, List.take_succ_cons, lexL_blank h, ← show q - (p + 1) = m by omega]
    exact h3
  · intro c r p h h1 h2 q e hq
    rw [lexL_rem_end h h1 h2] at hq
    cases hq
  · intro c r p h h1 h2 ih q e hq
    rw [lexL_rem h h1 h2] at hq
    obtain ⟨k1, k2, k3, k4⟩ := ih q e hq
    have hz := rem_size _ h1
    have hle := runL_le (fun d => !decide (d = 10)) (c :: r)
    obtain ⟨z, hzz⟩ : ∃ z, z = runL (fun d => !decide (d = 10)) (c :: r) := ⟨_, rfl⟩
    rw [← hzz] at h2 k1 k2 k3 hz hle
    rw [List.length_drop] at k2
    refine ⟨by omega, by omega, ?_, k4⟩
    obtain ⟨m, hm⟩ : ∃ m, q - p = m + 1 := ⟨q - p - 1, by omega⟩
    have h1' : isRem (c :: r.take m) = true := by rw [← List.take_succ_cons]; exact isRem_take (by omega) h1
    have e := runL_take (fun d => !decide (d = 10)) (c :: r) (m + 1) (by omega)
    rw [List.take_succ_cons, ← hzz] at e
    rw [hm, List.take_succ_cons]
    by_cases hlast : z = (c :: r.take m).length
    · rw [lexL_rem_end h h1' (by rw [e]; exact hlast)]
    · rw [lexL_rem h h1' (by rw [e]; exact hlast), e]
      have : (c :: r.take m).drop z = ((c :: r).drop z).take (q - (p + z)) := by
        rw [← List.take_succ_cons, List.drop_take]
        congr 1
        omega
      rw [this]
      exact k3
  · intro c r p h h1 h2 q e hq
    rw [lexL_bad h h1 h2] at hq
    obtain ⟨rfl, rfl⟩ : p = q ∧ (firstL (c :: r)).2.2 = e := by
      have := Option.some.inj hq
      exact ⟨congrArg Prod.fst this, congrArg Prod.snd this⟩
    refine ⟨Nat.le_refl _, by rw [List.length_cons]; omega, ?_, first_errs _ h2⟩
    rw [Nat.sub_self]
    rfl
  · intro c r p h h1 h2 ih q e hq
    rw [lexL_tok h h1 h2] at hq
    obtain ⟨k1, k2, k3, k4⟩ := ih q e hq
    have hz := first_size (c :: r) (by simp) h2
    obtain ⟨m, hm⟩ : ∃ m, q - p = m + 1 := ⟨q - p - 1, by omega⟩
    have hf := first_take (c :: r) (m + 1) (by simp) h2 (by omega)
    rw [List.take_succ_cons] at hf
    have h1' : isRem (c :: r.take m) = false := by
      cases hh : isRem (c :: r.take m) with
      | false => rfl
      | true =>
        rw [← List.take_succ_cons] at hh
        rw [isRem_of_take hh] at h1
        cases h1
    rw [List.length_drop] at k2
    refine ⟨by omega, by omega, ?_, k4⟩
    rw [hm, List.take_succ_cons, lexL_tok h h1' (by rw [hf]; exact h2), hf]
    have : (c :: r.take m).drop (firstL (c :: r)).2.1 = ((c :: r).drop (firstL (c :: r)).2.1).take (q - (p + (firstL (c :: r)).2.1)) := by
      rw [← List.take_succ_cons, List.drop_take]
      congr 1
      omega
    rw [this]
    exact k3
end Go.Proofs.YtgelggdgbmldiaaDoor
