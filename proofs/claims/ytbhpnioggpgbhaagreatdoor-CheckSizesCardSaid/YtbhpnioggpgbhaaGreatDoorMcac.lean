/-
 Layer 2: the data of the program's parser comes to an end: statements, functions, the whole. Written by an AI agent.
 Layer 3: what a tree's nodes stand for: expressions, statements, blocks. Written by an AI agent.
-/
import Derived.Test.YtbhpnioggpgbhaaGreatDoorMcab
namespace Go.Proofs.YtbhpnioggpgbhaaGreatDoor
set_option linter.unusedVariables false
set_option linter.unusedSimpArgs false
section
variable {src : List UInt8} {T : List Tok}
/-- What ends, with its node. -/
theorem ended_runs (hT : EndT T) {s : PS} (h : Okk T s ∧ s.nd.length ≤ 99000) (n : Nd) (l : List Int) : Runs (endedM T n l) s (fun _ s' => St T s s' 1 1 0) := by
 obtain ⟨o, r⟩ := h
 unfold endedM
 refine Runs.mod ?_
 have hw : (wantS T [59] s).nd.length = s.nd.length := by rw [want_nd]
 obtain ⟨o1, m1, n1, d1⟩ := want_St hT o [59]
 generalize wantS T [59] s = s1 at *
 refine (node_runs (.inr ⟨o1, by omega⟩) _ _).mono ?_
 rintro _ s3 ⟨o3, m3, n3, d3⟩
 exact ⟨o3, by omega, by omega, by omega⟩
def ExR (T : List Tok) (ex : PM Int) (M : Nat) : Prop := ∀ s1, Rm T s1 → mu T s1 ≤ M → Runs ex s1 (fun _ s' => St T s1 s' 1 1 0)
theorem comma_runs (hT : EndT T) {ex : PM Int} {M : Nat} (hx : ExR T ex M) :
  ∀ n (l : List Int) s, Okk T s → 0 ≤ s.dp → s.dp + mu T s ≤ 900000 → s.nd.length + 10 * mu T s ≤ 90001 → mu T s ≤ M → mu T s + 1 ≤ n → Runs (commaR T ex n l) s (fun _ s' => St T s s' 0 0 0) := by
 intro n
 induction n with
 | zero => intro x s _ _ _ _ _ h; exact absurd h (by omega)
 | succ n ih =>
  intro l s o r1 r2 r3 hM hn
  unfold commaR
  refine Runs.ask ?_
  try dsimp only
  by_cases hb : isS T [[44]] s = true
  ·rw [if_pos hb]
   refine Runs.mod ?_
   obtain ⟨hn, hn1, o1, m1, n1, d1⟩ := next_St hT o (isS_k hb)
   try dsimp only
   generalize nextS T s = s1 at *
   refine Runs.bind (hx s1 ⟨o1, by omega, by omega, by omega⟩ (by omega)) ?_
   rintro y s2 ⟨o2, m2, n2, d2⟩
   refine (ih _ s2 o2 (by omega) (by omega) (by omega) (by omega) (by omega)).mono ?_
   rintro _ s4 ⟨o4, m4, n4, d4⟩
   exact ⟨o4, by omega, by omega, by omega⟩
  ·rw [if_neg hb]
   exact Runs.pure ⟨o, by omega, by omega, by omega⟩
theorem args_runs (hT : EndT T) {ex : PM Int} {M N : Nat} (hx : ExR T ex M) {s : PS} (hs : Rm T s) (hM : mu T s ≤ M) (hN : mu T s + 1 ≤ N) :
  Runs (argsM T N ex) s (fun _ s' => St T s s' 0 1 0) := by
 unfold argsM
 refine Runs.ask ?_
 try dsimp only
 by_cases hb : isS T [[41]] s = true
 ·rw [if_pos hb]
  exact Runs.pure ⟨hs.1, by omega, by omega, by omega⟩
 ·rw [if_neg hb]
  refine Runs.bind (hx s hs hM) ?_
  obtain ⟨o, r1, r2, r3⟩ := hs
  rintro y s2 ⟨o2, m2, n2, d2⟩
  refine (comma_runs hT hx N _ s2 o2 (by omega) (by omega) (by omega) (by omega) (by omega)).mono ?_
  rintro _ s4 ⟨o4, m4, n4, d4⟩
  exact ⟨o4, by omega, by omega, by omega⟩
theorem call_runs (hT : EndT T) {ex : PM Int} {M N : Nat} (hx : ExR T ex M) {s : PS} (hs : Rm T s) (hc : callsS T s = true) (hM : mu T s ≤ M) (hN : mu T s + 1 ≤ N) :
  Runs (callM src T N ex) s (fun _ s' => St T s s' 1 2 0) := by
 have hmu := (next_St hT hs.1 (callsS_k hc)).1
 obtain ⟨o, r1, r2, r3⟩ := hs
 unfold callM
 refine Runs.ask ?_
 refine Runs.ask ?_
 refine Runs.mod ?_
 obtain ⟨o1, m1, n1, d1⟩ := name_St hT o
 generalize nameS T s = s1 at *
 refine Runs.mod ?_
 obtain ⟨o2, m2, n2, d2⟩ := want_St hT o1 [40]
 generalize wantS T [40] s1 = s2 at *
 try dsimp only
 refine Runs.bind (args_runs hT hx ⟨o2, by omega, by omega, by omega⟩ (by omega) (by omega)) ?_
 rintro l s3 ⟨o3, m3, n3, d3⟩
 refine Runs.mod ?_
 obtain ⟨o4, m4, n4, d4⟩ := want_St hT o3 [41]
 generalize wantS T [41] s3 = s4 at *
 refine (node_runs (.inr ⟨o4, by omega⟩) _ _).mono ?_
 rintro _ s5 ⟨o5, m5, n5, d5⟩
 exact ⟨o5, by omega, by omega, by omega⟩
theorem right_runs (hT : EndT T) {ex : PM Int} {M N : Nat} (hx : ExR T ex M) {s : PS} (hs : Rm T s) (hM : mu T s ≤ M) (hN : mu T s + 1 ≤ N) :
  Runs (rightM src T N ex) s (fun _ s' => St T s s' 1 2 0) := by
 unfold rightM
 refine Runs.ask ?_
 refine Runs.ask ?_
 try dsimp only
 by_cases hb : isS T [[105, 110, 112, 117, 116]] s = true
 ·rw [if_pos hb]
  refine (next_node hT hs (isS_k hb) _ _).mono ?_
  rintro _ s5 ⟨o5, m5, n5, d5⟩
  exact ⟨o5, by omega, by omega, by omega⟩
 rw [if_neg hb]
 clear hb
 refine Runs.ask ?_
 try dsimp only
 by_cases hb : isS T [[110, 101, 119]] s = true
 ·rw [if_pos hb]
  obtain ⟨o, r1, r2, r3⟩ := hs
  refine Runs.mod ?_
  obtain ⟨hn, hn1, o1, m1, n1, d1⟩ := next_St hT o (isS_k hb)
  generalize nextS T s = s1 at *
  refine Runs.mod ?_
  obtain ⟨o2, m2, n2, d2⟩ := want_St hT o1 [40]
  generalize wantS T [40] s1 = s2 at *
  try dsimp only
  refine Runs.bind (hx s2 ⟨o2, by omega, by omega, by omega⟩ (by omega)) ?_
  rintro y s3 ⟨o3, m3, n3, d3⟩
  refine Runs.mod ?_
  obtain ⟨o4, m4, n4, d4⟩ := want_St hT o3 [41]
  generalize wantS T [41] s3 = s4 at *
  refine (node_runs (.inr ⟨o4, by omega⟩) _ _).mono ?_
  rintro _ s5 ⟨o5, m5, n5, d5⟩
  exact ⟨o5, by omega, by omega, by omega⟩
 rw [if_neg hb]
 clear hb
 refine Runs.ask ?_
 try dsimp only
 by_cases hb : callsS T s = true
 ·rw [if_pos hb]
  exact call_runs hT hx hs hb hM hN
 rw [if_neg hb]
 refine (hx s hs hM).mono ?_
 rintro _ s5 ⟨o5, m5, n5, d5⟩
 exact ⟨o5, by omega, by omega, by omega⟩
theorem change_runs (hT : EndT T) {ex : PM Int} {M N : Nat} (ln : Int) (hx : ExR T ex M) {s : PS} (hs : Rm T s) (h1 : 1 ≤ mu T s) (hM : mu T s ≤ M) (hN : mu T s + 1 ≤ N) :
  Runs (changeM src T N ex ln) s (fun _ s' => St T s s' 1 4 0) := by
 obtain ⟨o, r1, r2, r3⟩ := hs
 unfold changeM
 refine Runs.ask ?_
 refine Runs.mod ?_
 obtain ⟨o1, m1, n1, d1⟩ := name_St hT o
 generalize nameS T s = s1 at *
 refine Runs.ask ?_
 try dsimp only
 by_cases hb : isS T [[91]] s1 = true
 ·rw [if_pos hb]
  have hn := (next_St hT o1 (isS_k hb)).1
  refine Runs.bind (open_runs hT o1 (by omega) [91]) ?_
  rintro _ s2 ⟨⟨o2, m2, n2, d2⟩, e2⟩
  refine Runs.bind (hx s2 ⟨o2, by omega, by omega, by omega⟩ (by omega)) ?_
  rintro y s3 ⟨o3, m3, n3, d3⟩
  refine Runs.bind (shut_runs hT o3 (by omega) [93]) ?_
  rintro _ s4 ⟨o4, m4, n4, d4⟩
  refine Runs.mod ?_
  obtain ⟨o5, m5, n5, d5⟩ := want_St hT o4 [61]
  generalize wantS T [61] s4 = s5 at *
  try dsimp only
  refine Runs.bind (hx s5 ⟨o5, by omega, by omega, by omega⟩ (by omega)) ?_
  rintro z s6 ⟨o6, m6, n6, d6⟩
  refine (ended_runs hT ⟨o6, by omega⟩ _ _).mono ?_
  rintro _ s7 ⟨o7, m7, n7, d7⟩
  exact ⟨o7, by omega, by omega, by omega⟩
 ·rw [if_neg hb]
  refine Runs.mod ?_
  obtain ⟨o2, m2, n2, d2⟩ := want_St hT o1 [61]
  generalize wantS T [61] s1 = s2 at *
  try dsimp only
  refine Runs.bind (right_runs hT hx ⟨o2, by omega, by omega, by omega⟩ (by omega) (by omega)) ?_
  rintro y s3 ⟨o3, m3, n3, d3⟩
  refine (ended_runs hT ⟨o3, by omega⟩ _ _).mono ?_
  rintro _ s7 ⟨o7, m7, n7, d7⟩
  exact ⟨o7, by omega, by omega, by omega⟩
def BlR (T : List Tok) (bl : PM Int) (M : Nat) : Prop := ∀ s1, Rm T s1 → mu T s1 + 1 ≤ M → Runs bl s1 (fun _ s' => St T s1 s' 1 1 0)
theorem choice_runs (hT : EndT T) {ex bl : PM Int} {M : Nat} (ln : Int) (hx : ExR T ex M) (hbl : BlR T bl M) {s : PS} (hs : Rm T s) (hk : (tokA T s).k ≠ 0) (hM : mu T s ≤ M) :
  Runs (choiceM T ex bl ln) s (fun _ s' => St T s s' 1 4 0) := by
 obtain ⟨o, r1, r2, r3⟩ := hs
 unfold choiceM
 refine Runs.mod ?_
 obtain ⟨hn, hn1, o1, m1, n1, d1⟩ := next_St hT o hk
 generalize nextS T s = s1 at *
 try dsimp only
 refine Runs.bind (hx s1 ⟨o1, by omega, by omega, by omega⟩ (by omega)) ?_
 rintro x s2 ⟨o2, m2, n2, d2⟩
 refine Runs.bind (hbl s2 ⟨o2, by omega, by omega, by omega⟩ (by omega)) ?_
 rintro y s3 ⟨o3, m3, n3, d3⟩
 refine Runs.ask ?_
 try dsimp only
 by_cases hb : isS T [[101, 108, 115, 101]] s3 = true
 ·rw [if_pos hb]
  refine Runs.mod ?_
  obtain ⟨hn', hn1', o4, m4, n4, d4⟩ := next_St hT o3 (isS_k hb)
  generalize nextS T s3 = s4 at *
  try dsimp only
  refine Runs.bind (hbl s4 ⟨o4, by omega, by omega, by omega⟩ (by omega)) ?_
  rintro z s5 ⟨o5, m5, n5, d5⟩
  refine (node_runs (.inr ⟨o5, by omega⟩) _ _).mono ?_
  rintro _ s7 ⟨o7, m7, n7, d7⟩
  exact ⟨o7, by omega, by omega, by omega⟩
 ·rw [if_neg hb]
  refine (node_runs (.inr ⟨o3, by omega⟩) _ _).mono ?_
  rintro _ s7 ⟨o7, m7, n7, d7⟩
  exact ⟨o7, by omega, by omega, by omega⟩
theorem statement_runs (hT : EndT T) {ex bl : PM Int} {M N : Nat} (hx : ExR T ex M) (hbl : BlR T bl M) {s : PS} (hs : Rm T s) (h1 : 1 ≤ mu T s) (hM : mu T s ≤ M) (hN : mu T s + 1 ≤ N) :
  Runs (statementM src T N ex bl) s (fun _ s' => St T s s' 1 4 0) := by
 unfold statementM
 refine Runs.ask ?_
 refine Runs.ask ?_
 try dsimp only
 by_cases hb : isS T [[105, 102]] s = true
 ·rw [if_pos hb]
  exact choice_runs hT _ hx hbl hs (isS_k hb) hM
 rw [if_neg hb]
 clear hb
 refine Runs.ask ?_
 try dsimp only
 by_cases hb : isS T [[119, 104, 105, 108, 101]] s = true
 ·rw [if_pos hb]
  obtain ⟨o, r1, r2, r3⟩ := hs
  refine Runs.mod ?_
  obtain ⟨hn, hn1, o1, m1, n1, d1⟩ := next_St hT o (isS_k hb)
  generalize nextS T s = s1 at *
  try dsimp only
  refine Runs.bind (hx s1 ⟨o1, by omega, by omega, by omega⟩ (by omega)) ?_
  rintro x s2 ⟨o2, m2, n2, d2⟩
  refine Runs.bind (hbl s2 ⟨o2, by omega, by omega, by omega⟩ (by omega)) ?_
  rintro y s3 ⟨o3, m3, n3, d3⟩
  refine (node_runs (.inr ⟨o3, by omega⟩) _ _).mono ?_
  rintro _ s7 ⟨o7, m7, n7, d7⟩
  exact ⟨o7, by omega, by omega, by omega⟩
 rw [if_neg hb]
 clear hb
 refine Runs.ask ?_
 try dsimp only
 by_cases hb : callsS T s = true
 ·rw [if_pos hb]
  refine Runs.bind (call_runs hT hx hs hb hM hN) ?_
  obtain ⟨o, r1, r2, r3⟩ := hs
  rintro x s2 ⟨o2, m2, n2, d2⟩
  refine (ended_runs hT ⟨o2, by omega⟩ _ _).mono ?_
  rintro _ s7 ⟨o7, m7, n7, d7⟩
  exact ⟨o7, by omega, by omega, by omega⟩
 rw [if_neg hb]
 clear hb
 refine Runs.ask ?_
 try dsimp only
 by_cases hb : isS T [[112, 114, 105, 110, 116]] s = true
 ·rw [if_pos hb]
  obtain ⟨o, r1, r2, r3⟩ := hs
  refine Runs.mod ?_
  obtain ⟨hn, hn1, o1, m1, n1, d1⟩ := next_St hT o (isS_k hb)
  generalize nextS T s = s1 at *
  try dsimp only
  refine Runs.bind (hx s1 ⟨o1, by omega, by omega, by omega⟩ (by omega)) ?_
  rintro x s2 ⟨o2, m2, n2, d2⟩
  refine (ended_runs hT ⟨o2, by omega⟩ _ _).mono ?_
  rintro _ s7 ⟨o7, m7, n7, d7⟩
  exact ⟨o7, by omega, by omega, by omega⟩
 rw [if_neg hb]
 clear hb
 refine Runs.ask ?_
 try dsimp only
 by_cases hb : isS T [[114, 101, 116, 117, 114, 110]] s = true
 ·rw [if_pos hb]
  obtain ⟨o, r1, r2, r3⟩ := hs
  refine Runs.mod ?_
  obtain ⟨hn, hn1, o1, m1, n1, d1⟩ := next_St hT o (isS_k hb)
  generalize nextS T s = s1 at *
  refine Runs.ask ?_
  try dsimp only
  by_cases hb : isS T [[59]] s1 = true
  ·rw [if_pos hb]
   refine (ended_runs hT ⟨o1, by omega⟩ _ _).mono ?_
   rintro _ s7 ⟨o7, m7, n7, d7⟩
   exact ⟨o7, by omega, by omega, by omega⟩
  ·rw [if_neg hb]
   refine Runs.bind (hx s1 ⟨o1, by omega, by omega, by omega⟩ (by omega)) ?_
   rintro x s2 ⟨o2, m2, n2, d2⟩
   refine (ended_runs hT ⟨o2, by omega⟩ _ _).mono ?_
   rintro _ s7 ⟨o7, m7, n7, d7⟩
   exact ⟨o7, by omega, by omega, by omega⟩
 rw [if_neg hb]
 clear hb
 refine Runs.ask ?_
 try dsimp only
 by_cases hb : isS T [[108, 101, 116]] s = true
 ·rw [if_pos hb]
  obtain ⟨o, r1, r2, r3⟩ := hs
  refine Runs.mod ?_
  obtain ⟨hn, hn1, o1, m1, n1, d1⟩ := next_St hT o (isS_k hb)
  generalize nextS T s = s1 at *
  refine Runs.ask ?_
  refine Runs.mod ?_
  obtain ⟨o2, m2, n2, d2⟩ := name_St hT o1
  generalize nameS T s1 = s2 at *
  refine Runs.mod ?_
  obtain ⟨o3, m3, n3, d3⟩ := want_St hT o2 [61]
  generalize wantS T [61] s2 = s3 at *
  try dsimp only
  refine Runs.bind (right_runs hT hx ⟨o3, by omega, by omega, by omega⟩ (by omega) (by omega)) ?_
  rintro y s4 ⟨o4, m4, n4, d4⟩
  refine (ended_runs hT ⟨o4, by omega⟩ _ _).mono ?_
  rintro _ s7 ⟨o7, m7, n7, d7⟩
  exact ⟨o7, by omega, by omega, by omega⟩
 rw [if_neg hb]
 exact change_runs hT _ hx hs h1 hM hN
def SmR (T : List Tok) (st : PM Int) (M : Nat) : Prop := ∀ s1, Rm T s1 → 1 ≤ mu T s1 → mu T s1 ≤ M → Runs st s1 (fun _ s' => St T s1 s' 1 4 0)
theorem stms_runs {st : PM Int} {M : Nat} (hst : SmR T st M) :
  ∀ n (l : List Int) s, Okk T s → (1 ≤ mu T s → Rm T s) → mu T s ≤ M → mu T s + 1 ≤ n → Runs (stmsR T st n l) s (fun _ s' => St T s s' 0 0 0) := by
 intro n
 induction n with
 | zero => intro x s _ _ _ h; exact absurd h (by omega)
 | succ n ih =>
  intro l s o hr hM hn
  unfold stmsR
  refine Runs.ask ?_
  try dsimp only
  by_cases hb : (decide (s.er = 0) && !(isS T [[125]] s)) = true
  ·rw [if_pos hb]
   have he : s.er = 0 := by simp at hb; exact hb.1
   have hm := mu_pos o he
   refine Runs.bind (hst s (hr hm) hm hM) ?_
   obtain ⟨_, r1, r2, r3⟩ := hr hm
   rintro y s2 ⟨o2, m2, n2, d2⟩
   refine (ih _ s2 o2 (fun _ => ⟨o2, by omega, by omega, by omega⟩) (by omega) (by omega)).mono ?_
   rintro _ s4 ⟨o4, m4, n4, d4⟩
   exact ⟨o4, by omega, by omega, by omega⟩
  ·rw [if_neg hb]
   exact Runs.pure ⟨o, by omega, by omega, by omega⟩
theorem block_runs (hT : EndT T) {st : PM Int} {M N : Nat} (hst : SmR T st M) {s : PS} (hs : Rm T s) (hM : mu T s ≤ M + 1) (hN : mu T s + 1 ≤ N) :
  Runs (blockM src T N st) s (fun _ s' => St T s s' 1 1 0) := by
 obtain ⟨o, r1, r2, r3⟩ := hs
 unfold blockM
 refine Runs.ask ?_
 refine Runs.bind (open_runs hT o (by omega) [123]) ?_
 rintro _ s2 ⟨⟨o2, m2, n2, d2⟩, e2⟩
 refine Runs.bind (stms_runs hst N [] s2 o2 (fun _ => ⟨o2, by omega, by omega, by omega⟩) (by omega) (by omega)) ?_
 rintro l s3 ⟨o3, m3, n3, d3⟩
 refine Runs.bind (shut_runs hT o3 (by omega) [125]) ?_
 rintro _ s4 ⟨o4, m4, n4, d4⟩
 refine (node_runs (.inr ⟨o4, by omega⟩) _ _).mono ?_
 rintro _ s7 ⟨o7, m7, n7, d7⟩
 exact ⟨o7, by omega, by omega, by omega⟩
theorem st_runs (hT : EndT T) {N : Nat} : ∀ n M, M ≤ n → 6 * M + 7 ≤ N → SmR T (stM src T N n) M := by
 intro n
 induction n with
 | zero => intro M hM hN s h1 h2 h3; exact absurd h2 (by omega)
 | succ n ih =>
  intro M hM hN s hs h1 h2
  unfold stM
  refine statement_runs (M := M) hT (fun s1 h3 h4 => ex_runs hT N 0 s1 (by omega) h3 (by omega)) (fun s1 h3 h4 => ?_) hs h1 h2 (by omega)
  exact block_runs hT (ih (M - 1) (by omega) (by omega)) h3 (by omega) (by omega)
theorem kind_runs (hT : EndT T) {s : PS} (o : Okk T s) : Runs (kindM T) s (fun _ s' => St T s s' 1 0 0) := by
 unfold kindM
 refine Runs.ask ?_
 try dsimp only
 by_cases hb : isS T [[105, 110, 116], [98, 111, 111, 108], [116, 101, 120, 116], [108, 105, 115, 116]] s = true
 ·rw [if_pos hb]
  refine Runs.ask ?_
  refine Runs.mod ?_
  exact Runs.pure (next_St hT o (isS_k hb)).2.2
 ·rw [if_neg hb]
  refine Runs.mod ?_
  exact Runs.pure (fail_St hT o (by decide))
theorem param_runs (hT : EndT T) {s : PS} (o : Okk T s) : Runs (paramM T) s (fun _ s' => St T s s' 1 0 0) := by
 unfold paramM
 refine Runs.ask ?_
 refine Runs.mod ?_
 have h1 := name_St hT o
 refine Runs.bind (kind_runs hT h1.1) ?_
 intro t s2 h2
 refine Runs.pure ?_
 obtain ⟨o3, m3, n3, d3⟩ := h1.trans h2
 obtain ⟨o1, m1, n1, d1⟩ := h1
 obtain ⟨o2, m2, n2, d2⟩ := h2
 exact ⟨o3, by omega, by omega, by omega⟩
theorem paramsR_runs (hT : EndT T) : ∀ n (l : List (List UInt8 × Int)) s, Okk T s → mu T s + 1 ≤ n → Runs (paramsR T n l) s (fun _ s' => St T s s' 0 0 0) := by
 intro n
 induction n with
 | zero => intro x s _ h; exact absurd h (by omega)
 | succ n ih =>
  intro l s o hn
  unfold paramsR
  refine Runs.ask ?_
  try dsimp only
  by_cases hb : isS T [[44]] s = true
  ·rw [if_pos hb]
   refine Runs.mod ?_
   obtain ⟨hn, hn1, o1, m1, n1, d1⟩ := next_St hT o (isS_k hb)
   generalize nextS T s = s1 at *
   try dsimp only
   refine Runs.bind (param_runs hT o1) ?_
   rintro y s2 ⟨o2, m2, n2, d2⟩
   refine (ih _ s2 o2 (by omega)).mono ?_
   rintro _ s4 ⟨o4, m4, n4, d4⟩
   exact ⟨o4, by omega, by omega, by omega⟩
  ·rw [if_neg hb]
   exact Runs.pure ⟨o, by omega, by omega, by omega⟩
theorem params_runs (hT : EndT T) {N : Nat} {s : PS} (o : Okk T s) (hN : mu T s + 1 ≤ N) : Runs (paramsM T N) s (fun _ s' => St T s s' 0 0 0) := by
 unfold paramsM
 refine Runs.ask ?_
 try dsimp only
 by_cases hb : isS T [[41]] s = true
 ·rw [if_pos hb]
  exact Runs.pure ⟨o, by omega, by omega, by omega⟩
 ·rw [if_neg hb]
  refine Runs.bind (param_runs hT o) ?_
  rintro y s2 ⟨o2, m2, n2, d2⟩
  refine (paramsR_runs hT N _ s2 o2 (by omega)).mono ?_
  rintro _ s4 ⟨o4, m4, n4, d4⟩
  exact ⟨o4, by omega, by omega, by omega⟩
theorem ret_runs (hT : EndT T) {s : PS} (o : Okk T s) : Runs (retM T) s (fun _ s' => St T s s' 0 0 0) := by
 unfold retM
 refine Runs.ask ?_
 try dsimp only
 by_cases hb : isS T [[123]] s = true
 ·rw [if_pos hb]
  exact Runs.pure ⟨o, by omega, by omega, by omega⟩
 ·rw [if_neg hb]
  refine (kind_runs hT o).mono ?_
  rintro y s2 ⟨o2, m2, n2, d2⟩
  exact ⟨o2, by omega, by omega, by omega⟩
theorem function_runs (hT : EndT T) {N : Nat} {s : PS} (hs : Rm T s) (h1 : 1 ≤ mu T s) (hN : 6 * mu T s + 7 ≤ N) {M : Nat} (hM : 6 * M + 7 ≤ N) (hMs : mu T s ≤ M + 1) (hst : SmR T (stM src T N N) M) :
  Runs (functionM src T N) s (fun _ s' => St T s s' 1 1 0) := by
 obtain ⟨o, r1, r2, r3⟩ := hs
 unfold functionM
 refine Runs.ask ?_
 refine Runs.mod ?_
 obtain ⟨o1, m1, n1, d1⟩ := want_St hT o [102, 110]
 generalize wantS T [102, 110] s = s1 at *
 refine Runs.ask ?_
 refine Runs.mod ?_
 obtain ⟨o2, m2, n2, d2⟩ := name_St hT o1
 generalize nameS T s1 = s2 at *
 refine Runs.mod ?_
 obtain ⟨o3, m3, n3, d3⟩ := want_St hT o2 [40]
 generalize wantS T [40] s2 = s3 at *
 try dsimp only
 refine Runs.bind (params_runs hT o3 (by omega)) ?_
 rintro ps s4 ⟨o4, m4, n4, d4⟩
 refine Runs.mod ?_
 obtain ⟨o5, m5, n5, d5⟩ := want_St hT o4 [41]
 generalize wantS T [41] s4 = s5 at *
 try dsimp only
 refine Runs.bind (ret_runs hT o5) ?_
 rintro r s6 ⟨o6, m6, n6, d6⟩
 refine Runs.bind (block_runs hT hst ⟨o6, by omega, by omega, by omega⟩ (by omega) (by omega)) ?_
 rintro y s7 ⟨o7, m7, n7, d7⟩
 exact Runs.pure ⟨o7, by omega, by omega, by omega⟩
theorem fns_runs (hT : EndT T) {N : Nat} : ∀ n (l : List Fnc) s, Rm T s → mu T s + 1 ≤ n → 6 * mu T s + 7 ≤ N → Runs (fnsR src T N n l) s (fun _ s' => St T s s' 0 0 0) := by
 intro n
 induction n with
 | zero => intro x s _ h; exact absurd h (by omega)
 | succ n ih =>
  intro l s hs hn hN
  unfold fnsR
  refine Runs.ask ?_
  try dsimp only
  by_cases hb : (decide (s.er = 0) && !(decide ((tokA T s).k = 0))) = true
  ·rw [if_pos hb]
   have he : s.er = 0 := by simp at hb; exact hb.1
   have hm := mu_pos hs.1 he
   refine Runs.bind (function_runs hT hs hm hN (M := mu T s) hN (by omega) (st_runs hT N (mu T s) (by omega) hN)) ?_
   obtain ⟨o, r1, r2, r3⟩ := hs
   rintro y s2 ⟨o2, m2, n2, d2⟩
   refine (ih _ s2 ⟨o2, by omega, by omega, by omega⟩ (by omega) (by omega)).mono ?_
   rintro _ s4 ⟨o4, m4, n4, d4⟩
   exact ⟨o4, by omega, by omega, by omega⟩
  ·rw [if_neg hb]
   exact Runs.pure ⟨hs.1, by omega, by omega, by omega⟩
theorem lexL_len (l : List UInt8) (p : Nat) : (lexL l p).1.length ≤ l.length + 1 := by
 refine lexL_ind (P := fun l p => (lexL l p).1.length ≤ l.length + 1) ?_ ?_ ?_ ?_ ?_ ?_ l p
 ·intro p
  exact Nat.le_refl 1
 ·intro c r p h0 ih
  rw [lexL_blank h0, List.length_cons]
  omega
 ·intro c r p h0 h1 h2
  rw [lexL_rem_end h0 h1 h2]
  show 1 ≤ _
  omega
 ·intro c r p h0 h1 h2 ih
  rw [lexL_rem h0 h1 h2]
  rw [List.length_drop] at ih
  omega
 ·intro c r p h0 h1 h2
  rw [lexL_bad h0 h1 h2]
  exact Nat.zero_le _
 ·intro c r p h0 h1 h2 ih
  have h3 := first_size (c :: r) (by simp) h2
  rw [lexL_tok h0 h1 h2]
  show _ + 1 ≤ _
  rw [List.length_drop] at ih
  omega
theorem lexL_endT (l : List UInt8) (hl : l.length ≤ 900) (h : (lexL l 0).2 = none) : EndT (lexL l 0).1 := by
 obtain ⟨init, h1, _⟩ := lexL_good l 0 h
 have h2 := lexL_len l 0
 rw [h1] at h2 ⊢
 refine ⟨?_, by omega, ?_⟩
 ·rw [List.length_append]
  show 0 < init.length + 1
  omega
 ·rw [List.length_append]
  show ((init ++ [(⟨0, [], 0 + l.length⟩ : Tok)]).getD (init.length + 1 - 1) default).k = 0
  rw [Nat.add_sub_cancel, List.getD_eq_getElem?_getD, List.getElem?_append_right (Nat.le_refl _), Nat.sub_self]
  rfl
/-- The program's parser tells something of each source. -/
theorem allP_some (src : List UInt8) (N : Nat) (hN : 6100 ≤ N) : ∃ res, allP N src = some res := by
 unfold allP
 by_cases hb : 600 < src.length
 ·rw [if_pos hb]
  exact ⟨_, rfl⟩
 ·rw [if_neg hb]
  cases he : (lexL src 0).2 with
  | some pe => exact ⟨_, rfl⟩
  | none =>
   have hT := lexL_endT src (by omega) he
   have hle : (lexL src 0).1.length ≤ 601 := by have := lexL_len src 0; omega
   have hmu : mu (lexL src 0).1 ⟨0, 0, 0, [], 0⟩ = (lexL src 0).1.length := rfl
   obtain ⟨fs, s', h1, h2⟩ := fns_runs (src := src) hT (N := N) N [] ⟨0, 0, 0, [], 0⟩ ⟨⟨hT.1, fun h => absurd rfl h⟩, by decide, by rw [hmu]; show (0 : Int) + _ ≤ _; omega, by rw [hmu]; show 0 + _ ≤ _; omega⟩ (by rw [hmu]; omega) (by rw [hmu]; omega)
   exact ⟨_, by show Option.map _ (fnsR src (lexL src 0).1 N N [] ⟨0, 0, 0, [], 0⟩) = _; rw [h1]; rfl⟩
end
end Go.Proofs.YtbhpnioggpgbhaaGreatDoor

namespace Go.Proofs.YtbhpnioggpgbhaaGreatDoor
set_option linter.unusedVariables false
set_option linter.unusedSimpArgs false
inductive Ex where
 | int (n : Int)
 | bool (b : Bool)
 | text (s : List UInt8)
 | var (s : List UInt8)
 | index (s : List UInt8) (a : Ex)
 | len (a : Ex)
 | neg (a : Ex)
 | not (a : Ex)
 | bin (s : List UInt8) (a b : Ex)
inductive Rt where
 | ex (e : Ex)
 | input
 | new (a : Ex)
 | call (s : List UInt8) (l : List Ex)
mutual
inductive Stm where
 | lt (s : List UInt8) (r : Rt)
 | set (s : List UInt8) (r : Rt)
 | put (s : List UInt8) (a b : Ex)
 | doo (s : List UInt8) (l : List Ex)
 | print (a : Ex)
 | ret0
 | ret1 (a : Ex)
 | ifs (c : Ex) (a : Bl)
 | ifelse (c : Ex) (a b : Bl)
 | whil (c : Ex) (a : Bl)
inductive Bl where
 | nil
 | cons (s : Stm) (l : Bl)
end
def signs11 : List (List UInt8) := [[124, 124], [38, 38], [60], [60, 61], [61, 61], [33, 61], [43], [45], [42], [47], [37]]
/-- The node at a place. -/
def At (nd : List Nd) (i k n : Int) (s : List UInt8) (l : List Int) : Prop := ∃ (j : Nat) (ln : Int), i = (j : Int) ∧ nd[j]? = some ⟨k, ln, n, s, l⟩
section
variable (Q : List UInt8 → Prop) (nd : List Nd)
def RepE : Ex → Int → Prop
 | .int n, i => At nd i 1 n [] [] ∧ 0 ≤ n ∧ n ≤ 9223372036854775807
 | .bool b, i => At nd i 2 (if b then 1 else 0) [] []
 | .text s, i => At nd i 3 0 s [] ∧ Q s
 | .var s, i => At nd i 4 0 s [] ∧ Q s
 | .index s a, i => ∃ x, At nd i 5 0 s [x] ∧ Q s ∧ RepE a x
 | .len a, i => ∃ x, At nd i 6 0 [] [x] ∧ RepE a x
 | .neg a, i => ∃ x, At nd i 7 0 [] [x] ∧ RepE a x
 | .not a, i => ∃ x, At nd i 8 0 [] [x] ∧ RepE a x
 | .bin s a b, i => ∃ x y, At nd i 9 0 s [x, y] ∧ s ∈ signs11 ∧ RepE a x ∧ RepE b y
def RepEs : List Ex → List Int → Prop
 | [], [] => True
 | e :: l, x :: xs => RepE Q nd e x ∧ RepEs l xs
 | _, _ => False
def RepR : Rt → Int → Prop
 | .ex e, i => RepE Q nd e i
 | .input, i => At nd i 19 0 [] []
 | .new a, i => ∃ x, At nd i 20 0 [] [x] ∧ RepE Q nd a x
 | .call s l, i => ∃ xs, At nd i 21 0 s xs ∧ Q s ∧ RepEs Q nd l xs
mutual
def RepS : Stm → Int → Prop
 | .lt s r, i => ∃ x, At nd i 10 0 s [x] ∧ Q s ∧ RepR Q nd r x
 | .set s r, i => ∃ x, At nd i 11 0 s [x] ∧ Q s ∧ RepR Q nd r x
 | .put s a b, i => ∃ x y, At nd i 12 0 s [x, y] ∧ Q s ∧ RepE Q nd a x ∧ RepE Q nd b y
 | .doo s l, i => ∃ x, At nd i 13 0 [] [x] ∧ RepR Q nd (.call s l) x
 | .print a, i => ∃ x, At nd i 14 0 [] [x] ∧ RepE Q nd a x
 | .ret0, i => At nd i 17 0 [] []
 | .ret1 a, i => ∃ x, At nd i 17 0 [] [x] ∧ RepE Q nd a x
 | .ifs c a, i => ∃ x y ys, At nd i 15 0 [] [x, y] ∧ RepE Q nd c x ∧ At nd y 18 0 [] ys ∧ RepB a ys
 | .ifelse c a b, i => ∃ x y ys z zs, At nd i 15 0 [] [x, y, z] ∧ RepE Q nd c x ∧ At nd y 18 0 [] ys ∧ RepB a ys ∧ At nd z 18 0 [] zs ∧ RepB b zs
 | .whil c a, i => ∃ x y ys, At nd i 16 0 [] [x, y] ∧ RepE Q nd c x ∧ At nd y 18 0 [] ys ∧ RepB a ys
def RepB : Bl → List Int → Prop
 | .nil, [] => True
 | .cons s b, x :: xs => RepS s x ∧ RepB b xs
 | .nil, _ :: _ => False
 | .cons _ _, [] => False
end
end
def massE : Ex → Nat
 | .int _ => 60
 | .bool _ => 60
 | .text s => s.length + 60
 | .var s => s.length + 60
 | .index s a => massE a + (s.length + 60)
 | .len a => massE a + 60
 | .neg a => massE a + 60
 | .not a => massE a + 60
 | .bin s a b => massE a + massE b + (s.length + 60)
def massEs : List Ex → Nat
 | [] => 0
 | e :: l => massE e + massEs l
def massR : Rt → Nat
 | .ex e => massE e
 | .input => 60
 | .new a => massE a + 60
 | .call s l => massEs l + (s.length + 60)
mutual
def massS : Stm → Nat
 | .lt s r => massR r + (s.length + 60)
 | .set s r => massR r + (s.length + 60)
 | .put s a b => massE a + massE b + (s.length + 60)
 | .doo s l => massEs l + (s.length + 60) + 60
 | .print a => massE a + 60
 | .ret0 => 60
 | .ret1 a => massE a + 60
 | .ifs c a => massE c + (massB a + 60) + 60
 | .ifelse c a b => massE c + (massB a + 60) + (massB b + 60) + 60
 | .whil c a => massE c + (massB a + 60) + 60
def massB : Bl → Nat
 | .nil => 0
 | .cons s b => massS s + massB b
end
def sumC : List Nd → Nat
 | [] => 0
 | n :: l => (n.s.length + 60) + sumC l
section
variable {Q : List UInt8 → Prop} {nd : List Nd}
end
/-- What a number stands for. -/
inductive It where
 | e (e : Ex)
 | r (r : Rt)
 | s (s : Stm)
 | b (b : Bl)
def RepI (Q : List UInt8 → Prop) (nd : List Nd) : It → Int → Prop
 | .e e, i => RepE Q nd e i
 | .r r, i => RepR Q nd r i
 | .s s, i => RepS Q nd s i
 | .b b, i => ∃ xs, At nd i 18 0 [] xs ∧ RepB Q nd b xs
def massI : It → Nat
 | .e e => massE e
 | .r r => massR r
 | .s s => massS s
 | .b b => massB b + 60
def massL : List (Int × It) → Nat
 | [] => 0
 | p :: l => massI p.2 + massL l
/-- What was made since a state. -/
def K (Q : List UInt8 → Prop) (s0 : PS) (l : List (Int × It)) (s : PS) : Prop :=
 ∃ ext, s.nd = s0.nd ++ ext ∧ (∀ p ∈ l, RepI Q s.nd p.2 p.1) ∧ massL l ≤ sumC ext ∧ (∀ n ∈ ext, Q n.s) ∧ ∀ j, s0.nd.length ≤ j → j < s.nd.length → ∃ it, RepI Q s.nd it (j : Int) ∧ massI it ≤ sumC ext
section
variable {Q : List UInt8 → Prop} {src : List UInt8} {T : List Tok}
theorem nd_next (s : PS) : (nextS T s).nd = s.nd := by unfold nextS; split <;> rfl
def SK (Q : List UInt8 → Prop) (m : PM Int) : Prop := ∀ s, Part m s (fun x s' => ∃ r, K Q s [(x, .s r)] s')
theorem intV_in (x : List UInt8) : 0 ≤ intV x ∧ intV x ≤ 9223372036854775807 := by
 unfold intV
 split
 ·omega
 ·decide
def sL (ps : List (Int × Stm)) : List (Int × It) := ps.map fun p => (p.1, It.s p.2)
def toBl : List Stm → Bl
 | [] => .nil
 | s :: l => .cons s (toBl l)
end
end Go.Proofs.YtbhpnioggpgbhaaGreatDoor
