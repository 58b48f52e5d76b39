/-
  Layer 2: the data of the program's parser comes to an end: statements, functions, the whole. Written by an AI agent.
-/
import Derived.Test.YtgelggdgbmldiaaDoorMkab
import Derived.Test.YtgelggdgbmldiaaDoorMkac
namespace Go.Proofs.YtgelggdgbmldiaaDoor
set_option linter.unusedVariables false
set_option linter.unusedSimpArgs false
section
variable {src : List UInt8} {T : List Tok}
/-- What ends, with its node. -/
theorem ended_runs (hT : EndT T) {s : PS} (h : Okk T s ∧ s.nd.length ≤ 99000) (n : Nd) (l : List Int) : Runs (endedM T n l) s (fun _ s' => St T s s' 1 1 0) := by
  obtain ⟨o, r⟩ := h
  unfold endedM
  refine Runs.mod ?_
  have hw : (wantS T [59] s).nd.length = s.nd.length := by rw [want_nd]
  obtain ⟨o1, m1, n1, d1⟩ := want_St hT o [59]
  generalize wantS T [59] s = s1 at *
  refine (node_runs (.inr ⟨o1, by omega⟩) _ _).mono ?_
  rintro _ s3 ⟨o3, m3, n3, d3⟩
  exact ⟨o3, by omega, by omega, by omega⟩
def ExR (T : List Tok) (ex : PM Int) (M : Nat) : Prop := ∀ s1, Rm T s1 → mu T s1 ≤ M → Runs ex s1 (fun _ s' => St T s1 s' 1 1 0)
theorem comma_runs (hT : EndT T) {ex : PM Int} {M : Nat} (hx : ExR T ex M) :
    ∀ n (l : List Int) s, Okk T s → 0 ≤ s.dp → s.dp + mu T s ≤ 900000 → s.nd.length + 10 * mu T s ≤ 90001 → mu T s ≤ M → mu T s + 1 ≤ n → Runs (commaR T ex n l) s (fun _ s' => St T s s' 0 0 0) := by
  intro n
  induction n with
  | zero => intro x s _ _ _ _ _ h; exact absurd h (by omega)
  | succ n ih =>
    intro l s o r1 r2 r3 hM hn
    unfold commaR
    refine Runs.ask ?_
    try dsimp only
    by_cases hb : isS T [[44]] s = true
    · rw [if_pos hb]
      refine Runs.mod ?_
      obtain ⟨hn, hn1, o1, m1, n1, d1⟩ := next_St hT o (isS_k hb)
      try dsimp only
      generalize nextS T s = s1 at *
      refine Runs.bind (hx s1 ⟨o1, by omega, by omega, by omega⟩ (by omega)) ?_
      rintro y s2 ⟨o2, m2, n2, d2⟩
      refine (ih _ s2 o2 (by omega) (by omega) (by omega) (by omega) (by omega)).mono ?_
      rintro _ s4 ⟨o4, m4, n4, d4⟩
      exact ⟨o4, by omega, by omega, by omega⟩
    · rw [if_neg hb]
      exact Runs.pure ⟨o, by omega, by omega, by omega⟩
theorem args_runs (hT : EndT T) {ex : PM Int} {M N : Nat} (hx : ExR T ex M) {s : PS} (hs : Rm T s) (hM : mu T s ≤ M) (hN : mu T s + 1 ≤ N) :
    Runs (argsM T N ex) s (fun _ s' => St T s s' 0 1 0) := by
  unfold argsM
  refine Runs.ask ?_
  try dsimp only
  by_cases hb : isS T [[41]] s = true
  · rw [if_pos hb]
    exact Runs.pure ⟨hs.1, by omega, by omega, by omega⟩
  · rw [if_neg hb]
    refine Runs.bind (hx s hs hM) ?_
    obtain ⟨o, r1, r2, r3⟩ := hs
    rintro y s2 ⟨o2, m2, n2, d2⟩
    refine (comma_runs hT hx N _ s2 o2 (by omega) (by omega) (by omega) (by omega) (by omega)).mono ?_
    rintro _ s4 ⟨o4, m4, n4, d4⟩
    exact ⟨o4, by omega, by omega, by omega⟩
theorem call_runs (hT : EndT T) {ex : PM Int} {M N : Nat} (hx : ExR T ex M) {s : PS} (hs : Rm T s) (hc : callsS T s = true) (hM : mu T s ≤ M) (hN : mu T s + 1 ≤ N) :
    Runs (callM src T N ex) s (fun _ s' => St T s s' 1 2 0) := by
  have hmu := (next_St hT hs.1 (callsS_k hc)).1
  obtain ⟨o, r1, r2, r3⟩ := hs
  unfold callM
  refine Runs.ask ?_
  refine Runs.ask ?_
  refine Runs.mod ?_
  obtain ⟨o1, m1, n1, d1⟩ := name_St hT o
  generalize nameS T s = s1 at *
  refine Runs.mod ?_
  obtain ⟨o2, m2, n2, d2⟩ := want_St hT o1 [40]
  generalize wantS T [40] s1 = s2 at *
  try dsimp only
  refine Runs.bind (args_runs hT hx ⟨o2, by omega, by omega, by omega⟩ (by omega) (by omega)) ?_
  rintro l s3 ⟨o3, m3, n3, d3⟩
  refine Runs.mod ?_
  obtain ⟨o4, m4, n4, d4⟩ := want_St hT o3 [41]
  generalize wantS T [41] s3 = s4 at *
  refine (node_runs (.inr ⟨o4, by omega⟩) _ _).mono ?_
  rintro _ s5 ⟨o5, m5, n5, d5⟩
  exact ⟨o5, by omega, by omega, by omega⟩
theorem right_runs (hT : EndT T) {ex : PM Int} {M N : Nat} (hx : ExR T ex M) {s : PS} (hs : Rm T s) (hM : mu T s ≤ M) (hN : mu T s + 1 ≤ N) :
    Runs (rightM src T N ex) s (fun _ s' => St T s s' 1 2 0) := by
  unfold rightM
  refine Runs.ask ?_
  refine Runs.ask ?_
  try dsimp only
  by_cases hb : isS T [[105, 110, 112, 117, 116]] s = true
  · rw [if_pos hb]
    refine (next_node hT hs (isS_k hb) _ _).mono ?_
    rintro _ s5 ⟨o5, m5, n5, d5⟩
    exact ⟨o5, by omega, by omega, by omega⟩
  rw [if_neg hb]
  clear hb
  refine Runs.ask ?_
  try dsimp only
  by_cases hb : isS T [[110, 101, 119]] s = true
  · rw [if_pos hb]
    obtain ⟨o, r1, r2, r3⟩ := hs
    refine Runs.mod ?_
    obtain ⟨hn, hn1, o1, m1, n1, d1⟩ := next_St hT o (isS_k hb)
    generalize nextS T s = s1 at *
    refine Runs.mod ?_
    obtain ⟨o2, m2, n2, d2⟩ := want_St hT o1 [40]
    generalize wantS T [40] s1 = s2 at *
    try dsimp only
    refine Runs.bind (hx s2 ⟨o2, by omega, by omega, by omega⟩ (by omega)) ?_
    rintro y s3 ⟨o3, m3, n3, d3⟩
    refine Runs.mod ?_
    obtain ⟨o4, m4, n4, d4⟩ := want_St hT o3 [41]
    generalize wantS T [41] s3 = s4 at *
    refine (node_runs (.inr ⟨o4, by omega⟩) _ _).mono ?_
    rintro _ s5 ⟨o5, m5, n5, d5⟩
    exact ⟨o5, by omega, by omega, by omega⟩
  rw [if_neg hb]
  clear hb
  refine Runs.ask ?_
  try dsimp only
  by_cases hb : callsS T s = true
  · rw [if_pos hb]
    exact call_runs hT hx hs hb hM hN
  rw [if_neg hb]
  refine (hx s hs hM).mono ?_
  rintro _ s5 ⟨o5, m5, n5, d5⟩
  exact ⟨o5, by omega, by omega, by omega⟩
theorem change_runs (hT : EndT T) {ex : PM Int} {M N : Nat} (ln : Int) (hx : ExR T ex M) {s : PS} (hs : Rm T s) (h1 : 1 ≤ mu T s) (hM : mu T s ≤ M) (hN : mu T s + 1 ≤ N) :
    Runs (changeM src T N ex ln) s (fun _ s' => St T s s' 1 4 0) := by
  obtain ⟨o, r1, r2, r3⟩ := hs
  unfold changeM
  refine Runs.ask ?_
  refine Runs.mod ?_
  obtain ⟨o1, m1, n1, d1⟩ := name_St hT o
  generalize nameS T s = s1 at *
  refine Runs.ask ?_
  try dsimp only
  by_cases hb : isS T [[91]] s1 = true
  · rw [if_pos hb]
    have hn := (next_St hT o1 (isS_k hb)).1
    refine Runs.bind (open_runs hT o1 (by omega) [91]) ?_
    rintro _ s2 ⟨⟨o2, m2, n2, d2⟩, e2⟩
    refine Runs.bind (hx s2 ⟨o2, by omega, by omega, by omega⟩ (by omega)) ?_
    rintro y s3 ⟨o3, m3, n3, d3⟩
    refine Runs.bind (shut_runs hT o3 (by omega) [93]) ?_
    rintro _ s4 ⟨o4, m4, n4, d4⟩
    refine Runs.mod ?_
    obtain ⟨o5, m5, n5, d5⟩ := want_St hT o4 [61]
    generalize wantS T [61] s4 = s5 at *
    try dsimp only
    refine Runs.bind (hx s5 ⟨o5, by omega, by omega, by omega⟩ (by omega)) ?_
    rintro z s6 ⟨o6, m6, n6, d6⟩
    refine (ended_runs hT ⟨o6, by omega⟩ _ _).mono ?_
    rintro _ s7 ⟨o7, m7, n7, d7⟩
    exact ⟨o7, by omega, by omega, by omega⟩
  · rw [if_neg hb]
    refine Runs.mod ?_
    obtain ⟨o2, m2, n2, d2⟩ := want_St hT o1 [61]
    generalize wantS T [61] s1 = s2 at *
    try dsimp only
    refine Runs.bind (right_runs hT hx ⟨o2, by omega, by omega, by omega⟩ (by omega) (by omega)) ?_
    rintro y s3 ⟨o3, m3, n3, d3⟩
    refine (ended_runs hT ⟨o3, by omega⟩ _ _).mono ?_
    rintro _ s7 ⟨o7, m7, n7, d7⟩
    exact ⟨o7, by omega, by omega, by omega⟩
def BlR (T : List Tok) (bl : PM Int) (M : Nat) : Prop := ∀ s1, Rm T s1 → mu T s1 + 1 ≤ M → Runs bl s1 (fun _ s' => St T s1 s' 1 1 0)
theorem choice_runs (hT : EndT T) {ex bl : PM Int} {M : Nat} (ln : Int) (hx : ExR T ex M) (hbl : BlR T bl M) {s : PS} (hs : Rm T s) (hk : (tokA T s).k ≠ 0) (hM : mu T s ≤ M) :
    Runs (choiceM T ex bl ln) s (fun _ s' => St T s s' 1 4 0) := by
  obtain ⟨o, r1, r2, r3⟩ := hs
  unfold choiceM
  refine Runs.mod ?_
  obtain ⟨hn, hn1, o1, m1, n1, d1⟩ := next_St hT o hk
  generalize nextS T s = s1 at *
  try dsimp only
  refine Runs.bind (hx s1 ⟨o1, by omega, by omega, by omega⟩ (by omega)) ?_
  rintro x s2 ⟨o2, m2, n2, d2⟩
  refine Runs.bind (hbl s2 ⟨o2, by omega, by omega, by omega⟩ (by omega)) ?_
  rintro y s3 ⟨o3, m3, n3, d3⟩
  refine Runs.ask ?_
  try dsimp only
  by_cases hb : isS T [[101, 108, 115, 101]] s3 = true
  · rw [if_pos hb]
    refine Runs.mod ?_
    obtain ⟨hn', hn1', o4, m4, n4, d4⟩ := next_St hT o3 (isS_k hb)
    generalize nextS T s3 = s4 at *
    try dsimp only
    refine Runs.bind (hbl s4 ⟨o4, by omega, by omega, by omega⟩ (by omega)) ?_
    rintro z s5 ⟨o5, m5, n5, d5⟩
    refine (node_runs (.inr ⟨o5, by omega⟩) _ _).mono ?_
    rintro _ s7 ⟨o7, m7, n7, d7⟩
    exact ⟨o7, by omega, by omega, by omega⟩
  · rw [if_neg hb]
    refine (node_runs (.inr ⟨o3, by omega⟩) _ _).mono ?_
    rintro _ s7 ⟨o7, m7, n7, d7⟩
    exact ⟨o7, by omega, by omega, by omega⟩
theorem statement_runs (hT : EndT T) {ex bl : PM Int} {M N : Nat} (hx : ExR T ex M) (hbl : BlR T bl M) {s : PS} (hs : Rm T s) (h1 : 1 ≤ mu T s) (hM : mu T s ≤ M) (hN : mu T s + 1 ≤ N) :
    Runs (statementM src T N ex bl) s (fun _ s' => St T s s' 1 4 0) := by
  unfold statementM
  refine Runs.ask ?_
  refine Runs.ask ?_
  try dsimp only
  by_cases hb : isS T [[105, 102]] s = true
  · rw [if_pos hb]
    exact choice_runs hT _ hx hbl hs (isS_k hb) hM
  rw [if_neg hb]
  clear hb
  refine Runs.ask ?_
  try dsimp only
  by_cases hb : isS T [[119, 104, 105, 108, 101]] s = true
  · rw [if_pos hb]
    obtain ⟨o, r1, r2, r3⟩ := hs
    refine Runs.mod ?_
    obtain ⟨hn, hn1, o1, m1, n1, d1⟩ := next_St hT o (isS_k hb)
    generalize nextS T s = s1 at *
    try dsimp only
    refine Runs.bind (hx s1 ⟨o1, by omega, by omega, by omega⟩ (by omega)) ?_
    rintro x s2 ⟨o2, m2, n2, d2⟩
    refine Runs.bind (hbl s2 ⟨o2, by omega, by omega, by omega⟩ (by omega)) ?_
    rintro y s3 ⟨o3, m3, n3, d3⟩
    refine (node_runs (.inr ⟨o3, by omega⟩) _ _).mono ?_
    rintro _ s7 ⟨o7, m7, n7, d7⟩
    exact ⟨o7, by omega, by omega, by omega⟩
  rw [if_neg hb]
  clear hb
  refine Runs.ask ?_
  try dsimp only
  by_cases hb : callsS T s = true
  · rw [if_pos hb]
    refine Runs.bind (call_runs hT hx hs hb hM hN) ?_
    obtain ⟨o, r1, r2, r3⟩ := hs
    rintro x s2 ⟨o2, m2, n2, d2⟩
    refine (ended_runs hT ⟨o2, by omega⟩ _ _).mono ?_
    rintro _ s7 ⟨o7, m7, n7, d7⟩
    exact ⟨o7, by omega, by omega, by omega⟩
  rw [if_neg hb]
  clear hb
  refine Runs.ask ?_
  try dsimp only
  by_cases hb : isS T [[112, 114, 105, 110, 116]] s = true
  · rw [if_pos hb]
    obtain ⟨o, r1, r2, r3⟩ := hs
    refine Runs.mod ?_
    obtain ⟨hn, hn1, o1, m1, n1, d1⟩ := next_St hT o (isS_k hb)
    generalize nextS T s = s1 at *
    try dsimp only
    refine Runs.bind (hx s1 ⟨o1, by omega, by omega, by omega⟩ (by omega)) ?_
    rintro x s2 ⟨o2, m2, n2, d2⟩
    refine (ended_runs hT ⟨o2, by omega⟩ _ _).mono ?_
    rintro _ s7 ⟨o7, m7, n7, d7⟩
    exact ⟨o7, by omega, by omega, by omega⟩
  rw [if_neg hb]
  clear hb
  refine Runs.ask ?_
  try dsimp only
  by_cases hb : isS T [[114, 101, 116, 117, 114, 110]] s = true
  · rw [if_pos hb]
    obtain ⟨o, r1, r2, r3⟩ := hs
    refine Runs.mod ?_
    obtain ⟨hn, hn1, o1, m1, n1, d1⟩ := next_St hT o (isS_k hb)
    generalize nextS T s = s1 at *
    refine Runs.ask ?_
    try dsimp only
    by_cases hb : isS T [[59]] s1 = true
    · rw [if_pos hb]
      refine (ended_runs hT ⟨o1, by omega⟩ _ _).mono ?_
      rintro _ s7 ⟨o7, m7, n7, d7⟩
      exact ⟨o7, by omega, by omega, by omega⟩
    · rw [if_neg hb]
      refine Runs.bind (hx s1 ⟨o1, by omega, by omega, by omega⟩ (by omega)) ?_
      rintro x s2 ⟨o2, m2, n2, d2⟩
      refine (ended_runs hT ⟨o2, by omega⟩ _ _).mono ?_
      rintro _ s7 ⟨o7, m7, n7, d7⟩
      exact ⟨o7, by omega, by omega, by omega⟩
  rw [if_neg hb]
  clear hb
  refine Runs.ask ?_
  try dsimp only
  by_cases hb : isS T [[108, 101, 116]] s = true
  · rw [if_pos hb]
    obtain ⟨o, r1, r2, r3⟩ := hs
    refine Runs.mod ?_
    obtain ⟨hn, hn1, o1, m1, n1, d1⟩ := next_St hT o (isS_k hb)
    generalize nextS T s = s1 at *
    refine Runs.ask ?_
    refine Runs.mod ?_
    obtain ⟨o2, m2, n2, d2⟩ := name_St hT o1
    generalize nameS T s1 = s2 at *
    refine Runs.mod ?_
    obtain ⟨o3, m3, n3, d3⟩ := want_St hT o2 [61]
    generalize wantS T [61] s2 = s3 at *
    try dsimp only
    refine Runs.bind (right_runs hT hx ⟨o3, by omega, by omega, by omega⟩ (by omega) (by omega)) ?_
    rintro y s4 ⟨o4, m4, n4, d4⟩
    refine (ended_runs hT ⟨o4, by omega⟩ _ _).mono ?_
    rintro _ s7 ⟨o7, m7, n7, d7⟩
    exact ⟨o7, by omega, by omega, by omega⟩
  rw [if_neg hb]
  exact change_runs hT _ hx hs h1 hM hN
def SmR (T : List Tok) (st : PM Int) (M : Nat) : Prop := ∀ s1, Rm T s1 → 1 ≤ mu T s1 → mu T s1 ≤ M → Runs st s1 (fun _ s' => St T s1 s' 1 4 0)
theorem stms_runs {st : PM Int} {M : Nat} (hst : SmR T st M) :
    ∀ n (l : List Int) s, Okk T s → (1 ≤ mu T s → Rm T s) → mu T s ≤ M → mu T s + 1 ≤ n → Runs (stmsR T st n l) s (fun _ s' => St T s s' 0 0 0) := by
  intro n
  induction n with
  | zero => intro x s _ _ _ h; exact absurd h (by omega)
  | succ n ih =>
    intro l s o hr hM hn
    unfold stmsR
    refine Runs.ask ?_
    try dsimp only
    by_cases hb : (decide (s.er = 0) && !(isS T [[125]] s)) = true
    · rw [if_pos hb]
      have he : s.er = 0 := by simp at hb; exact hb.1
      have hm := mu_pos o he
      refine Runs.bind (hst s (hr hm) hm hM) ?_
      obtain ⟨_, r1, r2, r3⟩ := hr hm
      rintro y s2 ⟨o2, m2, n2, d2⟩
      refine (ih _ s2 o2 (fun _ => ⟨o2, by omega, by omega, by omega⟩) (by omega) (by omega)).mono ?_
      rintro _ s4 ⟨o4, m4, n4, d4⟩
      exact ⟨o4, by omega, by omega, by omega⟩
    · rw [if_neg hb]
      exact Runs.pure ⟨o, by omega, by omega, by omega⟩
theorem block_runs (hT : EndT T) {st : PM Int} {M N : Nat} (hst : SmR T st M) {s : PS} (hs : Rm T s) (hM : mu T s ≤ M + 1) (hN : mu T s + 1 ≤ N) :
    Runs (blockM src T N st) s (fun _ s' => St T s s' 1 1 0) := by
  obtain ⟨o, r1, r2, r3⟩ := hs
  unfold blockM
  refine Runs.ask ?_
  refine Runs.bind (open_runs hT o (by omega) [123]) ?_
  rintro _ s2 ⟨⟨o2, m2, n2, d2⟩, e2⟩
  refine Runs.bind (stms_runs hst N [] s2 o2 (fun _ => ⟨o2, by omega, by omega, by omega⟩) (by omega) (by omega)) ?_
  rintro l s3 ⟨o3, m3, n3, d3⟩
  refine Runs.bind (shut_runs hT o3 (by omega) [125]) ?_
  rintro _ s4 ⟨o4, m4, n4, d4⟩
  refine (node_runs (.inr ⟨o4, by omega⟩) _ _).mono ?_
  rintro _ s7 ⟨o7, m7, n7, d7⟩
  exact ⟨o7, by omega, by omega, by omega⟩
theorem st_runs (hT : EndT T) {N : Nat} : ∀ n M, M ≤ n → 6 * M + 7 ≤ N → SmR T (stM src T N n) M := by
  intro n
  induction n with
  | zero => intro M hM hN s h1 h2 h3; exact absurd h2 (by omega)
  | succ n ih =>
    intro M hM hN s hs h1 h2
    unfold stM
    refine statement_runs (M := M) hT (fun s1 h3 h4 => ex_runs hT N 0 s1 (by omega) h3 (by omega)) (fun s1 h3 h4 => ?_) hs h1 h2 (by omega)
    exact block_runs hT (ih (M - 1) (by omega) (by omega)) h3 (by omega) (by omega)
theorem kind_runs (hT : EndT T) {s : PS} (o : Okk T s) : Runs (kindM T) s (fun _ s' => St T s s' 1 0 0) := by
  unfold kindM
  refine Runs.ask ?_
  try dsimp only
  by_cases hb : isS T [[105, 110, 116], [98, 111, 111, 108], [116, 101, 120, 116], [108, 105, 115, 116]] s = true
  · rw [if_pos hb]
    refine Runs.ask ?_
    refine Runs.mod ?_
    exact Runs.pure (next_St hT o (isS_k hb)).2.2
  · rw [if_neg hb]
    refine Runs.mod ?_
    exact Runs.pure (fail_St hT o (by decide))
theorem param_runs (hT : EndT T) {s : PS} (o : Okk T s) : Runs (paramM T) s (fun _ s' => St T s s' 1 0 0) := by
  unfold paramM
  refine Runs.ask ?_
  refine Runs.mod ?_
  have h1 := name_St hT o
  refine Runs.bind (kind_runs hT h1.1) ?_
  intro t s2 h2
  refine Runs.pure ?_
  obtain ⟨o3, m3, n3, d3⟩ := h1.trans h2
  obtain ⟨o1, m1, n1, d1⟩ := h1
  obtain ⟨o2, m2, n2, d2⟩ := h2
  exact ⟨o3, by omega, by omega, by omega⟩
theorem paramsR_runs (hT : EndT T) : ∀ n (l : List (List UInt8 × Int)) s, Okk T s → mu T s + 1 ≤ n → Runs (paramsR T n l) s (fun _ s' => St T s s' 0 0 0) := by
  intro n
  induction n with
  | zero => intro x s _ h; exact absurd h (by omega)
  | succ n ih =>
    intro l s o hn
    unfold paramsR
    refine Runs.ask ?_
    try dsimp only
    by_cases hb : isS T [[44]] s = true
    · rw [if_pos hb]
      refine Runs.mod ?_
      obtain ⟨hn, hn1, o1, m1, n1, d1⟩ := next_St hT o (isS_k hb)
      generalize nextS T s = s1 at *
      try dsimp only
      refine Runs.bind (param_runs hT o1) ?_
      rintro y s2 ⟨o2, m2, n2, d2⟩
      refine (ih _ s2 o2 (by omega)).mono ?_
      rintro _ s4 ⟨o4, m4, n4, d4⟩
      exact ⟨o4, by omega, by omega, by omega⟩
    · rw [if_neg hb]
      exact Runs.pure ⟨o, by omega, by omega, by omega⟩
theorem params_runs (hT : EndT T) {N : Nat} {s : PS} (o : Okk T s) (hN : mu T s + 1 ≤ N) : Runs (paramsM T N) s (fun _ s' => St T s s' 0 0 0) := by
  unfold paramsM
  refine Runs.ask ?_
  try dsimp only
  by_cases hb : isS T [[41]] s = true
  · rw [if_pos hb]
    exact Runs.pure ⟨o, by omega, by omega, by omega⟩
  · rw [if_neg hb]
    refine Runs.bind (param_runs hT o) ?_
    rintro y s2 ⟨o2, m2, n2, d2⟩
    refine (paramsR_runs hT N _ s2 o2 (by omega)).mono ?_
    rintro _ s4 ⟨o4, m4, n4, d4⟩
    exact ⟨o4, by omega, by omega, by omega⟩
theorem ret_runs (hT : EndT T) {s : PS} (o : Okk T s) : Runs (retM T) s (fun _ s' => St T s s' 0 0 0) := by
  unfold retM
  refine Runs.ask ?_
  try dsimp only
  by_cases hb : isS T [[123]] s = true
  · rw [if_pos hb]
    exact Runs.pure ⟨o, by omega, by omega, by omega⟩
  · rw [if_neg hb]
    refine (kind_runs hT o).mono ?_
    rintro y s2 ⟨o2, m2, n2, d2⟩
    exact ⟨o2, by omega, by omega, by omega⟩
theorem function_runs (hT : EndT T) {N : Nat} {s : PS} (hs : Rm T s) (h1 : 1 ≤ mu T s) (hN : 6 * mu T s + 7 ≤ N) {M : Nat} (hM : 6 * M + 7 ≤ N) (hMs : mu T s ≤ M + 1) (hst : SmR T (stM src T N N) M) :
    Runs (functionM src T N) s (fun _ s' => St T s s' 1 1 0) := by
  obtain ⟨o, r1, r2, r3⟩ := hs
  unfold functionM
  refine Runs.ask ?_
  refine Runs.mod ?_
  obtain ⟨o1, m1, n1, d1⟩ := want_St hT o [102, 110]
  generalize wantS T [102, 110] s = s1 at *
  refine Runs.ask ?_
  refine Runs.mod ?_
  obtain ⟨o2, m2, n2, d2⟩ := name_St hT o1
  generalize nameS T s1 = s2 at *
  refine Runs.mod ?_
  obtain ⟨o3, m3, n3, d3⟩ := want_St hT o2 [40]
  generalize wantS T [40] s2 = s3 at *
  try dsimp only
  refine Runs.bind (params_runs hT o3 (by omega)) ?_
  rintro ps s4 ⟨o4, m4, n4, d4⟩
  refine Runs.mod ?_
  obtain ⟨o5, m5, n5, d5⟩ := want_St hT o4 [41]
  generalize wantS T [41] s4 = s5 at *
  try dsimp only
  refine Runs.bind (ret_runs hT o5) ?_
  rintro r s6 ⟨o6, m6, n6, d6⟩
  refine Runs.bind (block_runs hT hst ⟨o6, by omega, by omega, by omega⟩ (by omega) (by omega)) ?_
  rintro y s7 ⟨o7, m7, n7, d7⟩
  exact Runs.pure ⟨o7, by omega, by omega, by omega⟩
theorem fns_runs (hT : EndT T) {N : Nat} : ∀ n (l : List Fnc) s, Rm T s → mu T s + 1 ≤ n → 6 * mu T s + 7 ≤ N → Runs (fnsR src T N n l) s (fun _ s' => St T s s' 0 0 0) := by
  intro n
  induction n with
  | zero => intro x s _ h; exact absurd h (by omega)
  | succ n ih =>
    intro l s hs hn hN
    unfold fnsR
    refine Runs.ask ?_
    try dsimp only
    by_cases hb : (decide (s.er = 0) && !(decide ((tokA T s).k = 0))) = true
    · rw [if_pos hb]
      have he : s.er = 0 := by simp at hb; exact hb.1
      have hm := mu_pos hs.1 he
      refine Runs.bind (function_runs hT hs hm hN (M := mu T s) hN (by omega) (st_runs hT N (mu T s) (by omega) hN)) ?_
      obtain ⟨o, r1, r2, r3⟩ := hs
      rintro y s2 ⟨o2, m2, n2, d2⟩
      refine (ih _ s2 ⟨o2, by omega, by omega, by omega⟩ (by omega) (by omega)).mono ?_
      rintro _ s4 ⟨o4, m4, n4, d4⟩
      exact ⟨o4, by omega, by omega, by omega⟩
    · rw [if_neg hb]
      exact Runs.pure ⟨hs.1, by omega, by omega, by omega⟩
theorem lexL_len (l : List UInt8) (p : Nat) : (lexL l p).1.length ≤ l.length + 1 := by
  refine lexL_ind (P := fun l p => (lexL l p).1.length ≤ l.length + 1) ?_ ?_ ?_ ?_ ?_ ?_ l p
  · intro p
    exact Nat.le_refl 1
  · intro c r p h0 ih
    rw [lexL_blank h0, List.length_cons]
    omega
  · intro c r p h0 h1 h2
    rw [lexL_rem_end h0 h1 h2]
    show 1 ≤ _
    omega
  · intro c r p h0 h1 h2 ih
    rw [lexL_rem h0 h1 h2]
    rw [List.length_drop] at ih
    omega
  · intro c r p h0 h1 h2
    rw [lexL_bad h0 h1 h2]
    exact Nat.zero_le _
  · intro c r p h0 h1 h2 ih
    have h3 := first_size (c :: r) (by simp) h2
    rw [lexL_tok h0 h1 h2]
    show _ + 1 ≤ _
    rw [List.length_drop] at ih
    omega
theorem lexL_endT (l : List UInt8) (hl : l.length ≤ 900) (h : (lexL l 0).2 = none) : EndT (lexL l 0).1 := by
  obtain ⟨init, h1, _⟩ := lexL_good l 0 h
  have h2 := lexL_len l 0
  rw [h1] at h2 ⊢
  refine ⟨?_, by omega, ?_⟩
  · rw [List.length_append]
    show 0 < init.length + 1
    omega
  · rw [List.length_append]
    show ((init ++ [(⟨0, [], 0 + l.length⟩ : Tok)]).getD (init.length + 1 - 1) default).k = 0
    rw [Nat.add_sub_cancel, List.getD_eq_getElem?_getD, List.getElem?_append_right (Nat.le_refl _), Nat.sub_self]
    rfl
/-- The program's parser tells something of each source. -/
theorem allP_some (src : List UInt8) (N : Nat) (hN : 6100 ≤ N) : ∃ res, allP N src = some res := by
  unfold allP
  by_cases hb : 600 < src.length
  · rw [if_pos hb]
    exact ⟨_, rfl⟩
  · rw [if_neg hb]
    cases he : (lexL src 0).2 with
    | some pe => exact ⟨_, rfl⟩
    | none =>
      have hT := lexL_endT src (by omega) he
      have hle : (lexL src 0).1.length ≤ 601 := by have := lexL_len src 0; omega
      have hmu : mu (lexL src 0).1 ⟨0, 0, 0, [], 0⟩ = (lexL src 0).1.length := rfl
      obtain ⟨fs, s', h1, h2⟩ := fns_runs (src := src) hT (N := N) N [] ⟨0, 0, 0, [], 0⟩ ⟨⟨hT.1, fun h => absurd rfl h⟩, by decide, by rw [hmu]; show (0 : Int) + _ ≤ _; omega, by rw [hmu]; show 0 + _ ≤ _; omega⟩ (by rw [hmu]; omega) (by rw [hmu]; omega)
      exact ⟨_, by show Option.map _ (fnsR src (lexL src 0).1 N N [] ⟨0, 0, 0, [], 0⟩) = _; rw [h1]; rfl⟩
end
end Go.Proofs.YtgelggdgbmldiaaDoor
