/-
  Layer 2: the document's reader tells what the program's parser tells (data): statements, functions, the whole. Written by an AI agent.
  Layer 2: the contract of the document's All. Written by an AI agent.
  Layer 2: what ParseBelow counts, as data; a source cut short. Written by an AI agent.
  Layer 3: short, and a source to the document's reader. Written by an AI agent.
-/
import Derived.Deep.OwnRows
import Derived.Test.YtgelggdgbmldiaaDoorMkbh
import Derived.Test.YtgelggdgbmldiaaDoorMkbi
namespace Go.Proofs.YtgelggdgbmldiaaDoor
set_option linter.unusedVariables false
set_option linter.unusedSimpArgs false
section
variable {src : List UInt8} {T : List Tok}
theorem comma_pers {ex : PM Int} (n : Nat) (l : List Int) : Pers T (commaR T ex n l) := by
  intro s r s1 he hk e
  cases n with
  | zero => cases e
  | succ n =>
    unfold commaR at e
    have e : (if isS T [[44]] s then _ else _ : PM (List Int)) s = some (r, s1) := e
    rw [isS_end hk, if_neg (by decide)] at e
    have e := pure_out e
    injection e with e1 e2
    exact ⟨[], by rw [List.append_nil, ← e2]⟩
theorem args_pers {ex : PM Int} (hp : Pers T ex) (N : Nat) : Pers T (argsM T N ex) := by
  intro s r s1 he hk e
  unfold argsM at e
  have e : (if isS T [[41]] s then _ else _ : PM (List Int)) s = some (r, s1) := e
  rw [isS_end hk, if_neg (by decide)] at e
  exact (hp.bind fun x => comma_pers N [x]) s r s1 he hk e
theorem args_sim (hT : EndT T) {ex ex' : PM Int} (hx : ∀ s s', Sm T s s' → SimAt T ex ex' s s') :
    ∀ n (l l' : List Int) s s', Sm T s s' → (s.er = 0 → l' = l) → SimAt T (do let x ← ex; commaR T ex (n + 1) (l ++ [x])) (rargsR T ex' (n + 1) l') s s' := by
  intro n
  induction n with
  | zero =>
    intro l l' s s' hs hl
    unfold rargsR
    refine SimAt.bind (hx s s' hs) ?_
    intro x x' t t' ht hx'
    unfold commaR
    refine SimAt.asks (ht.is hT _) ?_
    try dsimp only
    by_cases hb : isS T [[44]] t = true
    · rw [if_pos hb, if_pos hb]
      refine SimAt.next (ht.step hT (isS_k hb)).1 ?_
      intro r s1 e
      obtain ⟨a, v, e1, e2⟩ := bind_out e
      cases e2
    · rw [if_neg hb, if_neg hb]
      exact SimAt.ret ht (fun h => by rw [hl (hx' h).1, (hx' h).2])
  | succ n ih =>
    intro l l' s s' hs hl
    have hR : rargsR T ex' (n + 1 + 1) l' = (do
      let x ← ex'
      let b ← ask (isR T [44])
      if b then (do
        goR T
        rargsR T ex' (n + 1) (l' ++ [x]))
      else pure (l' ++ [x])) := rfl
    rw [hR]
    refine SimAt.bind (hx s s' hs) ?_
    intro x x' t t' ht hx'
    have hC : commaR T ex (n + 1 + 1) (l ++ [x]) = (do
      let b ← ask (isS T [[44]])
      if b then (do
        mod (nextS T)
        let y ← ex
        commaR T ex (n + 1) (l ++ [x] ++ [y]))
      else pure (l ++ [x])) := rfl
    rw [hC]
    refine SimAt.asks (ht.is hT _) ?_
    try dsimp only
    by_cases hb : isS T [[44]] t = true
    · rw [if_pos hb, if_pos hb]
      obtain ⟨hi, hS⟩ := ht.step hT (isS_k hb)
      refine SimAt.next hi ?_
      have he := (er_of_k hT ht (isS_k hb)).1
      exact ih (l ++ [x]) (l' ++ [x']) _ _ hS (fun _ => by rw [hl (hx' he).1, (hx' he).2])
    · rw [if_neg hb, if_neg hb]
      exact SimAt.ret ht (fun h => by rw [hl (hx' h).1, (hx' h).2])
theorem argsM_sim (hT : EndT T) {N : Nat} {ex ex' : PM Int} (hx : ∀ s s', Sm T s s' → SimAt T ex ex' s s') (hp : Pers T ex) {s s' : PS} (hs : Sm T s s') {b : Bool} (hb : b = (!(isR T [41] s') && decide (s'.er = 0))) : SimAt T (argsM T N ex) (if b then rargsR T ex' N [] else pure []) s s' := by
  by_cases he : s.er = 0
  · rw [hs.er, decide_eq_true he, Bool.and_true, hs.is hT] at hb
    unfold argsM
    refine SimAt.askL ?_
    try dsimp only
    by_cases h1 : isS T [[41]] s = true
    · rw [h1] at hb
      rw [hb, if_pos h1]
      exact SimAt.ret hs (fun _ => rfl)
    · rw [if_neg h1]
      have h1 : isS T [[41]] s = false := by simpa using h1
      rw [h1] at hb
      rw [hb]
      cases N with
      | zero =>
        intro r s1 e
        obtain ⟨a, v, e1, e2⟩ := bind_out e
        cases e2
      | succ n => exact args_sim hT hx n [] [] s s' hs (fun _ => rfl)
  · rw [hs.er, decide_eq_false he, Bool.and_false] at hb
    rw [hb]
    exact SimAt.persR (args_pers hp N) hT hs he
theorem call_sim (hT : EndT T) {N : Nat} {ex ex' : PM Int} (hx : ∀ s s', Sm T s s' → SimAt T ex ex' s s') (hp : Pers T ex) {s s' : PS} (hs : Sm T s s') : SimAt T (callM src T N ex) (rcallM src T N ex') s s' := by
  unfold callM rcallM
  refine SimAt.askL (SimAt.askR ?_)
  refine SimAt.asks (hs.nameX hT) ?_
  refine SimAt.both (le_name s) ?_
  refine SimAt.both (le_want _ _) ?_
  have h1 := (hs.name hT).want hT [40]
  have l1 : Le s (wantS T [40] (nameS T s)) := (le_name s).trans (le_want _ _)
  generalize wantS T [40] (nameS T s) = u at *
  generalize mustR T [40] (wnameR T s') = u' at *
  refine SimAt.askR ?_
  refine SimAt.bind (argsM_sim hT hx hp h1 rfl) ?_
  intro l l' v v' hv hl
  refine SimAt.both (le_want _ _) ?_
  refine SimAt.node (hv.want hT _) (fun h => ?_)
  have h2 := hl (le_want _ _ h)
  have e := hs.same (l1 h2.1)
  rw [h2.2, e]
  exact ⟨rfl, rfl⟩
theorem right_sim (hT : EndT T) {N : Nat} {ex ex' : PM Int} (hx : ∀ s s', Sm T s s' → SimAt T ex ex' s s') (hp : Pers T ex) {s s' : PS} (hs : Sm T s s') : SimAt T (rightM src T N ex) (rrightM src T N ex') s s' := by
  unfold rightM rrightM
  refine SimAt.askL (SimAt.askR ?_)
  refine SimAt.asks (hs.is hT _) ?_
  try dsimp only
  by_cases h1 : isS T [[105, 110, 112, 117, 116]] s = true
  · rw [if_pos h1, if_pos h1]
    obtain ⟨he, e⟩ := er_of_k hT hs (isS_k h1)
    subst e
    exact go_node hT hs (isS_k h1) _ _
  rw [if_neg h1, if_neg h1]
  refine SimAt.asks (hs.is hT _) ?_
  try dsimp only
  by_cases h2 : isS T [[110, 101, 119]] s = true
  · rw [if_pos h2, if_pos h2]
    obtain ⟨he, e⟩ := er_of_k hT hs (isS_k h2)
    subst e
    obtain ⟨hi, hS⟩ := hs.step hT (isS_k h2)
    refine SimAt.next hi ?_
    refine SimAt.both (le_want _ _) ?_
    refine SimAt.bind (hx _ _ (hS.want hT _)) ?_
    intro x x' t t' ht hl
    refine SimAt.both (le_want _ _) ?_
    exact SimAt.node (ht.want hT _) (fun h => ⟨rfl, by rw [(hl (le_want _ _ h)).2]⟩)
  rw [if_neg h2, if_neg h2]
  refine SimAt.asks (hs.calls hT) ?_
  try dsimp only
  by_cases h3 : callsS T s = true
  · rw [if_pos h3, if_pos h3]
    exact call_sim hT hx hp hs
  · rw [if_neg h3, if_neg h3]
    exact hx s s' hs
theorem ended_sim (hT : EndT T) {n : Nd} {l l' : List Int} {s s' : PS} (hs : Sm T s s') (hl : s.er = 0 → l' = l) : SimAt T (endedM T n l) (do mod (mustR T [59]); nodeM n l') s s' := by
  unfold endedM
  refine SimAt.both (le_want _ _) ?_
  exact SimAt.node (hs.want hT _) (fun h => ⟨rfl, hl (le_want _ _ h)⟩)
/-- What begins with a name, behind a look whether it is a call. -/
theorem named_sim (hT : EndT T) {N : Nat} {ex ex' : PM Int} (hx : ∀ s s', Sm T s s' → SimAt T ex ex' s s') (hp : Pers T ex) (ln : Int) {s s' : PS} (hs : Sm T s s') :
    SimAt T (do
      let b ← ask (callsS T)
      if b then (do
        let x ← callM src T N ex
        endedM T ⟨13, ln, 0, [], []⟩ [x])
      else changeM src T N ex ln) (rnamedM src T N ex' ln) s s' := by
  unfold rnamedM
  refine SimAt.asks (hs.calls hT) ?_
  try dsimp only
  by_cases h1 : callsS T s = true
  · rw [if_pos h1, if_pos h1]
    refine SimAt.bind (call_sim hT hx hp hs) ?_
    intro x x' t t' ht hl
    exact ended_sim hT ht (fun h => by rw [(hl h).2])
  rw [if_neg h1, if_neg h1]
  unfold changeM
  refine SimAt.asks (hs.nameX hT) ?_
  refine SimAt.both (le_name s) ?_
  have hn := hs.name hT
  generalize nameS T s = u at *
  generalize wnameR T s' = u' at *
  refine SimAt.asks (hn.is hT _) ?_
  try dsimp only
  by_cases h2 : isS T [[91]] u = true
  · rw [if_pos h2, if_pos h2]
    have A : (do
        openM T [91]
        let y ← ex
        shutM T [93]
        mod (wantS T [61])
        let z ← ex
        endedM T ⟨12, ln, 0, nameX T s, []⟩ [y, z] : PM Int) = (do
        let y ← insideM T ex [91] [93]
        mod (wantS T [61])
        let z ← ex
        endedM T ⟨12, ln, 0, nameX T s, []⟩ [y, z]) := by
      unfold insideM
      simp only [bind_assoc, pure_bind]
    rw [A]
    refine SimAt.bind (within_sim hT hx hn h2) ?_
    intro y y' t t' ht hy
    refine SimAt.both (le_want _ _) ?_
    refine SimAt.bind (hx _ _ (ht.want hT _)) ?_
    intro z z' v v' hv hz
    exact ended_sim hT hv (fun h => by rw [(hz h).2, (hy (le_want _ _ (hz h).1)).2])
  · rw [if_neg h2, if_neg h2]
    refine SimAt.both (le_want _ _) ?_
    refine SimAt.bind (right_sim hT hx hp (hn.want hT _)) ?_
    intro z z' v v' hv hz
    exact ended_sim hT hv (fun h => by rw [(hz h).2])
/-- A word, where signs are none. -/
theorem word_is (hW : SgT T) {s : PS} (he : s.er = 0) (w : List UInt8) (hw : w ∈ [[108, 101, 116], [112, 114, 105, 110, 116], [119, 104, 105, 108, 101], [105, 102], [114, 101, 116, 117, 114, 110], [105, 110, 116], [98, 111, 111, 108], [116, 101, 120, 116], [108, 105, 115, 116]]) :
    isS T [w] s = decide (wordR T s = w) := by
  unfold wordR kindR isS
  rw [decide_eq_true he, Bool.true_and]
  by_cases h4 : (tokA T s).k = 4
  · rw [h4]
    simp only [List.contains_cons, List.contains_nil, Bool.or_false, decide_true, Bool.or_true, Bool.true_and, if_true]
    by_cases hx : (tokA T s).x = w
    · simp [hx]
    · simp [hx]
  · have hne : ¬ ([] : List UInt8) = w := by
      intro h; subst h; revert hw; decide
    rw [decide_eq_false h4, Bool.or_false, if_neg (by decide), decide_eq_false hne]
    by_cases h5 : (tokA T s).k = 5
    · have := hW s.i h5
      rw [decide_eq_true h5, Bool.true_and]
      have hx : ¬ (tokA T s).x = w := fun h => this (by show (tokA T s).x ∈ _; rw [h]; exact hw)
      simp [hx]
    · rw [decide_eq_false h5, Bool.false_and]
theorem calls_word {s : PS} {w : List UInt8} (hw : wordR T s = w) (hn : w ≠ []) : callsS T s = false := by
  unfold wordR kindR at hw
  by_cases h4 : (decide (s.er = 0) && decide ((tokA T s).k = 4)) = true
  · have h4 := (Bool.and_eq_true _ _ ▸ h4).2
    have h4 : (tokA T s).k = 4 := by simpa using h4
    unfold callsS
    rw [h4]
    rfl
  · rw [if_neg h4] at hw
    exact absurd hw.symm hn
theorem k_of_word {s : PS} {w : List UInt8} (hw : wordR T s = w) (hn : w ≠ []) : (tokA T s).k ≠ 0 := by
  unfold wordR kindR at hw
  by_cases h4 : (decide (s.er = 0) && decide ((tokA T s).k = 4)) = true
  · have h4 := (Bool.and_eq_true _ _ ▸ h4).2
    have h4 : (tokA T s).k = 4 := by simpa using h4
    omega
  · rw [if_neg h4] at hw
    exact absurd hw.symm hn
theorem statement_sim (hT : EndT T) (hW : SgT T) {N : Nat} {ex ex' bl bl' : PM Int} (hx : ∀ s s', Sm T s s' → SimAt T ex ex' s s') (hp : Pers T ex) (hb : ∀ s s', Sm T s s' → SimAt T bl bl' s s') {s : PS} (hs : Sm T s s) (he : s.er = 0) : SimAt T (statementM src T N ex bl) (rstatementM src T N ex' bl') s s := by
  unfold statementM rstatementM
  refine SimAt.asks rfl (SimAt.askR (SimAt.askL ?_))
  try dsimp only
  have hI := word_is hW he (T := T)
  rw [hI [105, 102] (by decide)]
  by_cases w1 : wordR T s = [105, 102]
  · rw [w1]
    rw [decide_eq_true rfl, if_pos rfl, if_neg (by decide), if_neg (by decide), if_neg (by decide), if_pos rfl]
    unfold choiceM
    obtain ⟨hi, hS⟩ := hs.step hT (k_of_word w1 (by decide))
    refine SimAt.next hi ?_
    refine SimAt.bind (hx _ _ hS) ?_
    intro x x' t t' ht hx'
    refine SimAt.bind (hb _ _ ht) ?_
    intro y y' u u' hu hy
    refine SimAt.asks (hu.is hT _) ?_
    try dsimp only
    by_cases h2 : isS T [[101, 108, 115, 101]] u = true
    · rw [if_pos h2, if_pos h2]
      obtain ⟨hi, hS⟩ := hu.step hT (isS_k h2)
      refine SimAt.next hi ?_
      refine SimAt.bind (hb _ _ hS) ?_
      intro z z' v v' hv hz
      refine SimAt.node hv (fun h => ⟨rfl, ?_⟩)
      have e1 := hz h
      have e2 := hy (le_next u e1.1)
      rw [e1.2, e2.2, (hx' e2.1).2]
    · rw [if_neg h2, if_neg h2]
      exact SimAt.node hu (fun h => ⟨rfl, by rw [(hy h).2, (hx' (hy h).1).2]⟩)
  rw [decide_eq_false w1, if_neg (by decide)]
  refine SimAt.askL ?_
  try dsimp only
  rw [hI [119, 104, 105, 108, 101] (by decide)]
  by_cases w2 : wordR T s = [119, 104, 105, 108, 101]
  · rw [w2]
    rw [decide_eq_true rfl, if_pos rfl, if_neg (by decide), if_neg (by decide), if_pos rfl]
    obtain ⟨hi, hS⟩ := hs.step hT (k_of_word w2 (by decide))
    refine SimAt.next hi ?_
    refine SimAt.bind (hx _ _ hS) ?_
    intro x x' t t' ht hx'
    refine SimAt.bind (hb _ _ ht) ?_
    intro y y' u u' hu hy
    exact SimAt.node hu (fun h => ⟨rfl, by rw [(hy h).2, (hx' (hy h).1).2]⟩)
  rw [decide_eq_false w2, if_neg (by decide)]
  by_cases w3 : wordR T s = [112, 114, 105, 110, 116]
  · refine SimAt.askL ?_
    try dsimp only
    rw [calls_word w3 (by decide), if_neg (by decide)]
    refine SimAt.askL ?_
    try dsimp only
    rw [hI [112, 114, 105, 110, 116] (by decide), w3]
    rw [decide_eq_true rfl, if_pos rfl, if_neg (by decide), if_pos rfl]
    obtain ⟨hi, hS⟩ := hs.step hT (k_of_word w3 (by decide))
    refine SimAt.next hi ?_
    refine SimAt.bind (hx _ _ hS) ?_
    intro x x' t t' ht hx'
    exact ended_sim hT ht (fun h => by rw [(hx' h).2])
  by_cases w4 : wordR T s = [114, 101, 116, 117, 114, 110]
  · refine SimAt.askL ?_
    try dsimp only
    rw [calls_word w4 (by decide), if_neg (by decide)]
    refine SimAt.askL ?_
    try dsimp only
    rw [hI [112, 114, 105, 110, 116] (by decide), decide_eq_false w3, if_neg (by decide)]
    refine SimAt.askL ?_
    try dsimp only
    rw [hI [114, 101, 116, 117, 114, 110] (by decide), w4]
    rw [decide_eq_true rfl, if_pos rfl, if_neg (by decide), if_neg (by decide), if_neg (by decide), if_neg (by decide), if_pos rfl]
    obtain ⟨hi, hS⟩ := hs.step hT (k_of_word w4 (by decide))
    refine SimAt.next hi ?_
    refine SimAt.asks (hS.is hT _) ?_
    try dsimp only
    by_cases h2 : isS T [[59]] (nextS T s) = true
    · rw [if_pos h2, if_pos h2]
      exact ended_sim hT hS (fun _ => rfl)
    · rw [if_neg h2, if_neg h2]
      refine SimAt.bind (hx _ _ hS) ?_
      intro x x' t t' ht hx'
      exact ended_sim hT ht (fun h => by rw [(hx' h).2])
  by_cases w5 : wordR T s = [108, 101, 116]
  · refine SimAt.askL ?_
    try dsimp only
    rw [calls_word w5 (by decide), if_neg (by decide)]
    refine SimAt.askL ?_
    try dsimp only
    rw [hI [112, 114, 105, 110, 116] (by decide), decide_eq_false w3, if_neg (by decide)]
    refine SimAt.askL ?_
    try dsimp only
    rw [hI [114, 101, 116, 117, 114, 110] (by decide), decide_eq_false w4, if_neg (by decide)]
    refine SimAt.askL ?_
    try dsimp only
    rw [hI [108, 101, 116] (by decide), w5]
    rw [decide_eq_true rfl, if_pos rfl, if_pos rfl]
    obtain ⟨hi, hS⟩ := hs.step hT (k_of_word w5 (by decide))
    refine SimAt.next hi ?_
    refine SimAt.asks (hS.nameX hT) ?_
    refine SimAt.both (le_name _) ?_
    refine SimAt.both (le_want _ _) ?_
    refine SimAt.bind (right_sim hT hx hp ((hS.name hT).want hT _)) ?_
    intro z z' v v' hv hz
    exact ended_sim hT hv (fun h => by rw [(hz h).2])
  rw [if_neg w5, if_neg w3, if_neg w2, if_neg w1, if_neg w4]
  have hm := named_sim (src := src) (N := N) hT hx hp (lineS src T s) hs
  intro r s1 e
  refine hm r s1 ?_
  have e : (if callsS T s then _ else _ : PM Int) s = some (r, s1) := e
  show (if callsS T s then _ else _ : PM Int) s = some (r, s1)
  by_cases hc : callsS T s = true
  · rw [if_pos hc] at e ⊢
    exact e
  · rw [if_neg hc] at e ⊢
    have e : (if isS T [[112, 114, 105, 110, 116]] s then _ else _ : PM Int) s = some (r, s1) := e
    rw [hI [112, 114, 105, 110, 116] (by decide), decide_eq_false w3, if_neg (by decide)] at e
    have e : (if isS T [[114, 101, 116, 117, 114, 110]] s then _ else _ : PM Int) s = some (r, s1) := e
    rw [hI [114, 101, 116, 117, 114, 110] (by decide), decide_eq_false w4, if_neg (by decide)] at e
    have e : (if isS T [[108, 101, 116]] s then _ else _ : PM Int) s = some (r, s1) := e
    rw [hI [108, 101, 116] (by decide), decide_eq_false w5, if_neg (by decide)] at e
    exact e
theorem stms_sim (hT : EndT T) {st st' : PM Int} (hst : ∀ s, Sm T s s → s.er = 0 → SimAt T st st' s s) :
    ∀ n (l l' : List Int) s s', Sm T s s' → (s.er = 0 → l' = l) → SimAt T (stmsR T st n l) (rstmsR T st' n l') s s' := by
  intro n
  induction n with
  | zero => intro l l' s s' _ _ r s1 e; cases e
  | succ n ih =>
    intro l l' s s' hs hl
    unfold stmsR rstmsR
    refine SimAt.asks (by show (decide (s'.er = 0) && !(isR T [125] s')) = _; rw [hs.er, hs.is hT]) ?_
    try dsimp only
    by_cases hb : (decide (s.er = 0) && !(isS T [[125]] s)) = true
    · rw [if_pos hb, if_pos hb]
      have he : s.er = 0 := by
        have := ((Bool.and_eq_true _ _).mp hb).1
        simpa using this
      have e := hs.same he
      subst e
      refine SimAt.bind (hst _ hs he) ?_
      intro x x' t t' ht hx
      exact ih _ _ t t' ht (fun h => by rw [(hx h).2, hl (hx h).1])
    · rw [if_neg hb, if_neg hb]
      exact SimAt.ret hs hl
theorem block_sim (hT : EndT T) {N : Nat} {st st' : PM Int} (hst : ∀ s, Sm T s s → s.er = 0 → SimAt T st st' s s) {s s' : PS} (hs : Sm T s s') : SimAt T (blockM src T N st) (rblockM src T N st') s s' := by
  unfold blockM rblockM
  refine SimAt.askL (SimAt.askR (SimAt.askR ?_))
  try dsimp only
  rw [hs.is hT]
  by_cases hb : isS T [[123]] s = true
  · rw [if_pos hb]
    refine open_sim hT hs hb ?_
    intro u u' hu hl
    refine SimAt.bind (stms_sim hT hst N [] [] u u' hu (fun _ => rfl)) ?_
    intro l l' t t' ht hll
    refine shut_sim hT ht ?_
    intro v v' hv hvl
    refine SimAt.node hv (fun h => ?_)
    have h2 := hll (hvl h)
    rw [h2.2, hs.same (hl h2.1)]
    exact ⟨rfl, rfl⟩
  · rw [if_neg hb]
    have hb : isS T [[123]] s = false := by simpa using hb
    intro r s1 e
    obtain ⟨h1, h2⟩ := fail_end hT hs
    obtain ⟨_, t, e1, e⟩ := bind_out e
    have e1 : deepS 1 (openS T [123] s) = some (_, t) := e1
    rw [open_bad hb] at e1
    obtain ⟨_, rfl⟩ := deep_some e1
    obtain ⟨l, t2, e2, e⟩ := bind_out e
    have hS := hs.fail hT (e := 20) (by decide)
    generalize failS T 20 s = g at *
    have e3 : t2 = { g with dp := g.dp + 1 } := by
      cases N with
      | zero => cases e2
      | succ n =>
        unfold stmsR at e2
        have e2 : (if (decide (g.er = 0) && _) = true then _ else _ : PM (List Int)) _ = some (l, t2) := e2
        rw [decide_eq_false h1, Bool.false_and, if_neg (by decide)] at e2
        have e2 := pure_out e2
        injection e2
    subst e3
    obtain ⟨_, t3, e3, e⟩ := bind_out e
    have e3 : deepS (-1) (wantS T [125] _) = some (_, t3) := e3
    rw [want_end (by exact h1) (by exact h2)] at e3
    obtain ⟨_, rfl⟩ := deep_some e3
    obtain ⟨_, _, rfl⟩ := node_some e
    refine ⟨0, failR T 20 s', rfl, ?_, fun h => absurd h h1⟩
    have := hS.more h1 [({ k := 18, ln := lineS src T s, n := 0, s := [], l := l } : Nd)]
    have e5 : g.dp + 1 + -1 = g.dp := by omega
    show Sm T { i := g.i, pl := g.pl, er := g.er, nd := g.nd ++ _, dp := g.dp + 1 + -1 } _
    rw [e5]
    exact this
theorem st_sim (hT : EndT T) (hW : SgT T) {N : Nat} : ∀ n s, Sm T s s → s.er = 0 → SimAt T (stM src T N n) (rstM src T N n) s s := by
  intro n
  induction n with
  | zero => intro s _ _ r s1 e; cases e
  | succ n ih =>
    intro s hs he
    exact statement_sim hT hW (ex_sim hT N 0) (ex_pers N 0) (fun s s' hs => block_sim hT ih hs) hs he
theorem typeN_word {w : List UInt8} : typeN w ≠ 0 ↔ w ∈ [[105, 110, 116], [98, 111, 111, 108], [116, 101, 120, 116], [108, 105, 115, 116]] := by
  unfold typeN
  simp only [List.mem_cons, List.not_mem_nil, or_false]
  constructor
  · intro h
    split at h
    · exact .inl ‹_›
    · split at h
      · exact .inr (.inl ‹_›)
      · split at h
        · exact .inr (.inr (.inl ‹_›))
        · split at h
          · exact .inr (.inr (.inr ‹_›))
          · exact absurd rfl h
  · rintro (rfl | rfl | rfl | rfl) <;> decide
theorem kind_sim (hT : EndT T) (hW : SgT T) {s s' : PS} (hs : Sm T s s') : SimAt T (kindM T) (typedM T) s s' := by
  unfold kindM typedM
  refine SimAt.askL (SimAt.askR ?_)
  try dsimp only
  by_cases he : s.er = 0
  · have e := hs.same he
    subst e
    by_cases h4 : (tokA T s').k = 4
    · have hw : wordR T s' = (tokA T s').x := by
        unfold wordR kindR
        rw [if_pos (by rw [decide_eq_true he, decide_eq_true h4]; rfl)]
      have hb : isS T [[105, 110, 116], [98, 111, 111, 108], [116, 101, 120, 116], [108, 105, 115, 116]] s' = [[105, 110, 116], [98, 111, 111, 108], [116, 101, 120, 116], [108, 105, 115, 116]].contains (tokA T s').x := by
        unfold isS
        rw [h4]
        rfl
      rw [hw, hb]
      by_cases ht : typeN (tokA T s').x = 0
      · rw [if_pos ht, if_neg (fun h => typeN_word.2 (List.contains_iff_mem.1 h) ht)]
        refine SimAt.both (le_fail (by decide) _) ?_
        exact SimAt.ret (hs.fail hT (by decide)) (fun _ => rfl)
      · rw [if_neg ht, if_pos (List.contains_iff_mem.2 (typeN_word.1 ht))]
        refine SimAt.askL ?_
        obtain ⟨hi, hS⟩ := hs.step hT (by omega)
        refine SimAt.next hi ?_
        exact SimAt.ret hS (fun _ => rfl)
    · have hw : wordR T s' = [] := by
        unfold wordR kindR
        rw [if_neg (by rw [decide_eq_false h4, Bool.and_false]; decide)]
      have hb : isS T [[105, 110, 116], [98, 111, 111, 108], [116, 101, 120, 116], [108, 105, 115, 116]] s' = false := by
        unfold isS
        rw [decide_eq_false h4, Bool.or_false]
        by_cases h5 : (tokA T s').k = 5
        · have hn := hW s'.i h5
          rw [decide_eq_true h5, Bool.true_and]
          cases hc : [[105, 110, 116], [98, 111, 111, 108], [116, 101, 120, 116], [108, 105, 115, 116]].contains (tokA T s').x with
          | false => rfl
          | true =>
            exfalso
            have hc := List.contains_iff_mem.1 hc
            apply hn
            show (tokA T s').x ∈ _
            simp only [List.mem_cons, List.not_mem_nil, or_false] at hc ⊢
            rcases hc with h | h | h | h <;> simp [h]
        · rw [decide_eq_false h5, Bool.false_and]
      rw [hw, hb, if_neg (by decide), if_pos (show typeN [] = 0 by decide)]
      refine SimAt.both (le_fail (by decide) _) ?_
      exact SimAt.ret (hs.fail hT (by decide)) (fun _ => rfl)
  · have hw : wordR T s' = [] := by
      unfold wordR kindR
      rw [hs.er, if_neg (by rw [decide_eq_false he, Bool.false_and]; decide)]
    rw [hw, isS_end (hs.k0 hT he), if_neg (by decide), if_pos (show typeN [] = 0 by decide)]
    refine SimAt.both (le_fail (by decide) _) ?_
    exact SimAt.ret (hs.fail hT (by decide)) (fun _ => rfl)
theorem param_pers : Pers T (paramM T) := by
  intro s r s1 he hk e
  unfold paramM kindM at e
  have e : (do let t ← (do
                let b ← ask (isS T [[105, 110, 116], [98, 111, 111, 108], [116, 101, 120, 116], [108, 105, 115, 116]])
                if b then (do
                  let k ← ask (tokA T)
                  mod (nextS T)
                  pure (typeN k.x))
                else do
                  mod (failS T 20)
                  pure 0 : PM Int)
               pure (nameX T s, t) : PM (List UInt8 × Int)) (nameS T s) = some (r, s1) := e
  rw [name_end he hk] at e
  obtain ⟨t, s2, e1, e2⟩ := bind_out e
  have e1 : (if isS T [[105, 110, 116], [98, 111, 111, 108], [116, 101, 120, 116], [108, 105, 115, 116]] s then _ else _ : PM Int) s = some (t, s2) := e1
  rw [isS_end hk, if_neg (by decide)] at e1
  have e1 : (pure 0 : PM Int) (failS T 20 s) = some (t, s2) := e1
  have hf : failS T 20 s = s := if_neg he
  rw [hf] at e1
  have e1 := pure_out e1
  injection e1 with e3 e4
  have e2 := pure_out e2
  injection e2 with e5 e6
  exact ⟨[], by rw [List.append_nil, e6, e4]⟩
theorem params_pers (n : Nat) (l : List (List UInt8 × Int)) : Pers T (paramsR T n l) := by
  intro s r s1 he hk e
  cases n with
  | zero => cases e
  | succ n =>
    unfold paramsR at e
    have e : (if isS T [[44]] s then _ else _ : PM (List (List UInt8 × Int))) s = some (r, s1) := e
    rw [isS_end hk, if_neg (by decide)] at e
    have e := pure_out e
    injection e with e1 e2
    exact ⟨[], by rw [List.append_nil, ← e2]⟩
theorem paramsM_pers (N : Nat) : Pers T (paramsM T N) := by
  intro s r s1 he hk e
  unfold paramsM at e
  have e : (if isS T [[41]] s then _ else _ : PM (List (List UInt8 × Int))) s = some (r, s1) := e
  rw [isS_end hk, if_neg (by decide)] at e
  exact (param_pers.bind fun x => params_pers N [x]) s r s1 he hk e
theorem params_sim (hT : EndT T) (hW : SgT T) :
    ∀ n (l l' : List (List UInt8 × Int)) s s', Sm T s s' → (s.er = 0 → l' = l) → SimAt T (do let x ← paramM T; paramsR T (n + 1) (l ++ [x])) (rparamsR T (n + 1) l') s s' := by
  intro n
  induction n with
  | zero =>
    intro l l' s s' hs hl
    have hR : rparamsR T (0 + 1) l' = (do
      let x ← ask (wnameX T)
      mod (wnameR T)
      let t ← typedM T
      let b ← ask (isR T [44])
      if b then (do
        goR T
        rparamsR T 0 (l' ++ [(x, t)]))
      else pure (l' ++ [(x, t)])) := rfl
    rw [hR]
    unfold paramM
    simp only [bind_assoc, pure_bind]
    refine SimAt.asks (hs.nameX hT) ?_
    refine SimAt.both (le_name s) ?_
    refine SimAt.bind (kind_sim hT hW (hs.name hT)) ?_
    intro x x' t t' ht hx'
    unfold paramsR
    refine SimAt.asks (ht.is hT _) ?_
    try dsimp only
    by_cases hb : isS T [[44]] t = true
    · rw [if_pos hb, if_pos hb]
      refine SimAt.next (ht.step hT (isS_k hb)).1 ?_
      intro r s1 e
      obtain ⟨a, v, e1, e2⟩ := bind_out e
      cases e2
    · rw [if_neg hb, if_neg hb]
      exact SimAt.ret ht (fun h => by rw [hl (le_name s (hx' h).1), (hx' h).2])
  | succ n ih =>
    intro l l' s s' hs hl
    have hR : rparamsR T (n + 1 + 1) l' = (do
      let x ← ask (wnameX T)
      mod (wnameR T)
      let t ← typedM T
      let b ← ask (isR T [44])
      if b then (do
        goR T
        rparamsR T (n + 1) (l' ++ [(x, t)]))
      else pure (l' ++ [(x, t)])) := rfl
    rw [hR]
    have hC : ∀ m, paramsR T (n + 1 + 1) m = (do
      let b ← ask (isS T [[44]])
      if b then (do
        mod (nextS T)
        let y ← paramM T
        paramsR T (n + 1) (m ++ [y]))
      else pure m) := fun _ => rfl
    have hP : (do let x ← paramM T; paramsR T (n + 1 + 1) (l ++ [x]) : PM (List (List UInt8 × Int))) = (do
      let x ← ask (nameX T)
      mod (nameS T)
      let t ← kindM T
      paramsR T (n + 1 + 1) (l ++ [(x, t)])) := by
      unfold paramM
      simp only [bind_assoc, pure_bind]
    rw [hP]
    refine SimAt.asks (hs.nameX hT) ?_
    refine SimAt.both (le_name s) ?_
    refine SimAt.bind (kind_sim hT hW (hs.name hT)) ?_
    intro x x' t t' ht hx'
    rw [hC]
    refine SimAt.asks (ht.is hT _) ?_
    try dsimp only
    by_cases hb : isS T [[44]] t = true
    · rw [if_pos hb, if_pos hb]
      obtain ⟨hi, hS⟩ := ht.step hT (isS_k hb)
      refine SimAt.next hi ?_
      have he := (er_of_k hT ht (isS_k hb)).1
      exact ih _ _ _ _ hS (fun _ => by rw [hl (le_name s (hx' he).1), (hx' he).2])
    · rw [if_neg hb, if_neg hb]
      exact SimAt.ret ht (fun h => by rw [hl (le_name s (hx' h).1), (hx' h).2])
theorem paramsM_sim (hT : EndT T) (hW : SgT T) {N : Nat} {s s' : PS} (hs : Sm T s s') {b : Bool} (hb : b = (!(isR T [41] s') && decide (s'.er = 0))) : SimAt T (paramsM T N) (if b then rparamsR T N [] else pure []) s s' := by
  by_cases he : s.er = 0
  · rw [hs.er, decide_eq_true he, Bool.and_true, hs.is hT] at hb
    unfold paramsM
    refine SimAt.askL ?_
    try dsimp only
    by_cases h1 : isS T [[41]] s = true
    · rw [h1] at hb
      rw [hb, if_pos h1]
      exact SimAt.ret hs (fun _ => rfl)
    · rw [if_neg h1]
      have h1 : isS T [[41]] s = false := by simpa using h1
      rw [h1] at hb
      rw [hb]
      cases N with
      | zero =>
        intro r s1 e
        obtain ⟨a, v, e1, e2⟩ := bind_out e
        cases e2
      | succ n => exact params_sim hT hW n [] [] s s' hs (fun _ => rfl)
  · rw [hs.er, decide_eq_false he, Bool.and_false] at hb
    rw [hb]
    exact SimAt.persR (paramsM_pers N) hT hs he
theorem function_sim (hT : EndT T) (hW : SgT T) {N : Nat} {s s' : PS} (hs : Sm T s s') : SimAt T (functionM src T N) (rfunctionM src T N) s s' := by
  unfold functionM rfunctionM
  refine SimAt.askL (SimAt.askR ?_)
  refine SimAt.both (le_want _ _) ?_
  refine SimAt.asks ((hs.want hT _).nameX hT) ?_
  refine SimAt.both (le_name _) ?_
  refine SimAt.both (le_want _ _) ?_
  have h1 := ((hs.want hT [102, 110]).name hT).want hT [40]
  have l1 : Le s (wantS T [40] (nameS T (wantS T [102, 110] s))) := ((le_want _ _).trans (le_name _)).trans (le_want _ _)
  generalize nameX T (wantS T [102, 110] s) = x at *
  generalize wantS T [40] (nameS T (wantS T [102, 110] s)) = u at *
  generalize mustR T [40] (wnameR T (mustR T [102, 110] s')) = u' at *
  refine SimAt.askR ?_
  refine SimAt.bind (paramsM_sim hT hW h1 rfl) ?_
  intro l l' v v' hv hl
  refine SimAt.both (le_want _ _) ?_
  have h2 := hv.want hT [41]
  refine SimAt.askR ?_
  refine SimAt.bind (m := retM T) (m' := if isR T [123] (mustR T [41] v') then pure 0 else typedM T) ?_ ?_
  · unfold retM
    refine SimAt.askL ?_
    try dsimp only
    rw [h2.is hT]
    by_cases hb : isS T [[123]] (wantS T [41] v) = true
    · rw [if_pos hb, if_pos hb]
      exact SimAt.ret h2 (fun _ => rfl)
    · rw [if_neg hb, if_neg hb]
      exact kind_sim hT hW h2
  intro r r' t t' ht hr
  refine SimAt.bind (block_sim hT (st_sim hT hW N) ht) ?_
  intro y y' z z' hz hy
  refine SimAt.ret hz (fun h => ?_)
  have a1 := hy h
  have a2 := hr a1.1
  have a3 := hl (le_want _ _ a2.1)
  have e := hs.same (l1 a3.1)
  rw [a1.2, a2.2, a3.2, e]
theorem fns_sim (hT : EndT T) (hW : SgT T) {N : Nat} : ∀ n (l l' : List Fnc) s s', Sm T s s' → (s.er = 0 → l' = l) → SimAt T (fnsR src T N n l) (rfnsR src T N n l') s s' := by
  intro n
  induction n with
  | zero => intro l l' s s' _ _ r s1 e; cases e
  | succ n ih =>
    intro l l' s s' hs hl
    unfold fnsR rfnsR
    have hq : (decide (s'.er = 0) && !(kindR T 0 s')) = (decide (s.er = 0) && !(decide ((tokA T s).k = 0))) := by
      rw [hs.er]
      by_cases he : s.er = 0
      · rw [hs.same he]
        unfold kindR
        rw [decide_eq_true he]
        rfl
      · rw [decide_eq_false he, Bool.false_and, Bool.false_and]
    refine SimAt.asks hq ?_
    try dsimp only
    by_cases hb : (decide (s.er = 0) && !(decide ((tokA T s).k = 0))) = true
    · rw [if_pos hb, if_pos hb]
      refine SimAt.bind (function_sim hT hW hs) ?_
      intro x x' t t' ht hx
      exact ih _ _ t t' ht (fun h => by rw [(hx h).2, hl (hx h).1])
    · rw [if_neg hb, if_neg hb]
      exact SimAt.ret hs hl
end
theorem first_sign (c : UInt8) (r : List UInt8) (h : (firstL (c :: r)).1 = 5) : ltr c = false := by
  rw [firstL_cons] at h
  by_cases h1 : dig c = true
  · rw [if_pos h1] at h
    unfold numberL at h
    split at h <;> cases h
  · rw [if_neg h1] at h
    by_cases h2 : ltr c = true
    · rw [if_pos h2] at h
      unfold nameL at h
      split at h
      · cases h
      · split at h <;> cases h
    · simpa using h2
theorem sg_lex (l : List UInt8) (p : Nat) : ∀ t ∈ (lexL l p).1, t.k = 5 → ∃ c r, t.x = c :: r ∧ ltr c = false := by
  refine lexL_ind (P := fun l p => ∀ t ∈ (lexL l p).1, t.k = 5 → ∃ c r, t.x = c :: r ∧ ltr c = false) ?_ ?_ ?_ ?_ ?_ ?_ l p
  · intro p t ht hk
    have ht : t ∈ [(⟨0, [], p⟩ : Tok)] := ht
    rw [List.mem_singleton.1 ht] at hk
    cases hk
  · intro c r p h ih
    rw [lexL_blank h]
    exact ih
  · intro c r p h h1 h2 t ht hk
    rw [lexL_rem_end h h1 h2] at ht
    rw [List.mem_singleton.1 ht] at hk
    cases hk
  · intro c r p h h1 h2 ih
    rw [lexL_rem h h1 h2]
    exact ih
  · intro c r p h h1 h2 t ht
    rw [lexL_bad h h1 h2] at ht
    cases ht
  · intro c r p h h1 h2 ih t ht hk
    have hs := first_size (c :: r) (by simp) h2
    rw [lexL_tok h h1 h2] at ht
    rcases List.mem_cons.1 ht with rfl | ht
    · have hk : (firstL (c :: r)).1 = 5 := hk
      refine ⟨c, r.take ((firstL (c :: r)).2.1 - 1), ?_, first_sign c r hk⟩
      show saidL _ _ = _
      rw [hk]
      obtain ⟨m, hm⟩ : ∃ m, (firstL (c :: r)).2.1 = m + 1 := ⟨(firstL (c :: r)).2.1 - 1, by omega⟩
      rw [hm]
      rfl
    · exact ih t ht hk
theorem sgT_lex (l : List UInt8) : SgT (lexL l 0).1 := by
  intro i hk hx
  have hi : i < (lexL l 0).1.length := by
    rcases Nat.lt_or_ge i (lexL l 0).1.length with h | h
    · exact h
    · rw [List.getD, List.getElem?_eq_none h] at hk
      exact absurd hk (by decide)
  have hm : (lexL l 0).1.getD i default ∈ (lexL l 0).1 := by
    rw [List.getD, List.getElem?_eq_getElem hi]
    exact List.getElem_mem hi
  obtain ⟨c, r, e, h⟩ := sg_lex l 0 _ hm hk
  rw [e] at hx
  simp only [List.mem_cons, List.cons.injEq, List.not_mem_nil, or_false] at hx
  rcases hx with h1 | h1 | h1 | h1 | h1 | h1 | h1 | h1 | h1 <;> (rw [h1.1] at h; exact absurd h (by decide))
/-- The document's reader tells what the program's parser tells. -/
theorem allR_eq (src : List UInt8) (N : Nat) (res : (Nat × Nat) ⊕ (List Nd × List Fnc)) (h : allP N src = some res) : allR N src = some res := by
  unfold allP at h
  unfold allR
  by_cases hb : 600 < src.length
  · rw [if_pos hb] at h ⊢
    exact h
  · rw [if_neg hb] at h ⊢
    cases he : (lexL src 0).2 with
    | some pe => rw [he] at h; exact h
    | none =>
      rw [he] at h
      have hT := lexL_endT src (by omega) he
      have hW := sgT_lex src
      have hS : Sm (lexL src 0).1 ⟨0, 0, 0, [], 0⟩ ⟨0, 0, 0, [], 0⟩ := Sm.refl hT.1 rfl
      have h : (fnsR src (lexL src 0).1 N N [] ⟨0, 0, 0, [], 0⟩).map (fun p => treeP p.1 p.2) = some res := h
      show (rfnsR src (lexL src 0).1 N N [] ⟨0, 0, 0, [], 0⟩).map (fun p => treeP p.1 p.2) = some res
      cases hm : fnsR src (lexL src 0).1 N N [] ⟨0, 0, 0, [], 0⟩ with
      | none => rw [hm] at h; cases h
      | some p =>
        rw [hm] at h
        obtain ⟨fs, s1⟩ := p
        obtain ⟨fs', s1', h1, h2, h3⟩ := fns_sim hT hW N [] [] _ _ hS (fun _ => rfl) fs s1 hm
        rw [h1]
        have h : some (treeP fs s1) = some res := h
        rw [← h]
        show some (treeP fs' s1') = some (treeP fs s1)
        by_cases h0 : s1.er = 0
        · rw [h2.same h0, (h3 h0).2]
        · obtain ⟨_, _, ⟨h4, _⟩ | ⟨_, h5, h6, _, _⟩⟩ := h2
          · exact absurd h4 h0
          · unfold treeP
            rw [if_neg h0, if_neg (by rw [h5]; exact h0), h5, h6]
end Go.Proofs.YtgelggdgbmldiaaDoor

namespace Go.Proofs.YtgelggdgbmldiaaDoor
open Go Go.RowKit Go.Shelf
set_option linter.unusedVariables false
set_option linter.unusedSimpArgs false
/-- The document's All, for any source, as far as the numbers of steps go. -/
theorem rpall_any (s : ByteArray) (hs : s.size ≤ 1000) (N : Nat) (hN : N ≤ 100000) (res : (Nat × Nat) ⊕ (List Nd × List Fnc)) (h : allR N s.data.toList = some res) (w : World) :
    Calls Tryd.prog 16 #[.string s] w fun e w' => TreeE 0 res e w' ∧ Keeps (fun _ => False) w w' := by
  unfold allR at h
  by_cases hb : 600 < s.size
  · rw [if_pos (by rw [len_size]; exact hb)] at h
    obtain rfl := Option.some.inj h
    refine (rpall_err s w 0 4 (by decide) (fun w1 k => (rall_any s hs w1).mono fun e w' ⟨h1, hk⟩ => ?_)).mono fun e w' ⟨h1, h2⟩ => ⟨h1, h2⟩
    rw [if_pos (by rw [len_size]; exact hb)] at h1
    exact ⟨h1, hk⟩
  · rw [if_neg (by rw [len_size]; exact hb)] at h
    cases hl : (lexL s.data.toList 0).2 with
    | some pe =>
      rw [hl] at h
      obtain rfl := Option.some.inj h
      obtain ⟨p, er⟩ := pe
      have her := lexL_cut s.data.toList 0 p er hl
      refine (rpall_err s w p er (by omega) (fun w1 k => (rall_any s hs w1).mono fun e w' ⟨h1, hk⟩ => ?_)).mono fun e w' ⟨h1, h2⟩ => ⟨h1, h2⟩
      rw [if_neg (by rw [len_size]; exact hb), hl] at h1
      exact ⟨h1, hk⟩
    | none =>
      rw [hl] at h
      exact rpall_ok s (by omega) N hN res hl h w (fun P => rfunction_any (by omega) hN (rblock_any (by omega) hN (rst_any (by omega) hN N)))
end Go.Proofs.YtgelggdgbmldiaaDoor

namespace Go.Proofs.YtgelggdgbmldiaaDoor
open Go Go.RowKit Go.Shelf
set_option linter.unusedVariables false
set_option linter.unusedSimpArgs false
/-- What is refused bears an error. -/
theorem errs_ne (N : Nat) (src : List UInt8) (p er : Nat) (h : allP N src = some (.inl (p, er))) : er ≠ 0 := by
  unfold allP at h
  split at h
  · cases h; decide
  split at h
  · rename_i pe hl
    have h1 := Option.some.inj h
    have h2 : pe = (p, er) := Sum.inl.inj h1
    rw [h2] at hl
    have := (lexL_cut src 0 p er hl).2.2.2
    omega
  · rename_i hn
    cases hr : fnsR src (lexL src 0).1 N N [] ⟨0, 0, 0, [], 0⟩ with
    | none => rw [hr] at h; cases h
    | some r =>
      rw [hr] at h
      obtain ⟨l, s⟩ := r
      have h1 : treeP l s = .inl (p, er) := Option.some.inj h
      unfold treeP at h1
      split at h1
      · split at h1
        · cases h1; decide
        · cases h1
      · cases h1
        assumption
end Go.Proofs.YtgelggdgbmldiaaDoor

namespace Go.Proofs.YtgelggdgbmldiaaDoor
open Go Go.RowKit Go.Shelf
set_option linter.unusedVariables false
set_option linter.unusedSimpArgs false
set_option maxHeartbeats 16000000 in
theorem short3_any (s : ByteArray) (w : World) : Calls Tryd.prog 17 #[.string s] w fun e w' => (∃ t : ByteArray, t.size ≤ 700 ∧ e = .returned (.string t)) ∧ w' = w := by
  by_cases h : 700 < s.size
  · have hI : (700 : Int) < (s.size : Int) := by omega
    have hI2 : (700 : Int) ≤ (s.size : Int) := by omega
    have H := Lib.hid (show (s.extract 0 700).size ≤ 700 by rw [ByteArray.size_extract]; omega)
    clear h
    go_enter Tryd.func17, Tryd.ntmps17
    go_wp2
    go_ret
    exact ⟨⟨_, H.out, rfl⟩, rfl⟩
  · have hI : ¬ (700 : Int) < (s.size : Int) := by omega
    have hd : decide ((700 : Int) < (s.size : Int)) = false := decide_eq_false hI
    go_enter Tryd.func17, Tryd.ntmps17
    go_wp2
    go_ret
    exact ⟨⟨s, by omega, rfl⟩, rfl⟩
/-- A source, to the document's reader. -/
theorem rsrc_any (s : ByteArray) (hs : s.size ≤ 1000) (res : Res) (h : allP 6100 s.data.toList = some res) (w : World) : Calls Tryd.prog 16 #[.string s] w fun e w' => ∃ A c A' c', e = .returned (.tuple #[.agg #[.slice A (ndsOf res).length c, .slice A' (fnsOf res).length c'], .int .i64 (atOf res : Int), .int .i64 (erOf res : Int)]) ∧ TreeR 0 w' A A' (ndsOf res) (fnsOf res) ∧ Keeps (fun _ => False) w w' :=
  (rpall_any s hs 6100 (by omega) res (allR_eq _ _ _ h) w).mono fun e w' ⟨h1, k⟩ => by
    obtain ⟨A, c, A', c', h2, h3⟩ := treeE_all h1
    exact ⟨A, c, A', c', h2, h3, k⟩
def qshow (s : List UInt8) : Prop := s.length ≤ 1000
theorem qt_of (src : List UInt8) (h : (lexL src 0).2 = none) (hl : src.length ≤ 600) : QT qshow (lexL src 0).1 := by
  have hok := tokOK_lex src hl h
  refine ⟨by show ([] : List UInt8).length ≤ 1000; simp, fun s => ?_⟩
  unfold tokA
  rcases Nat.lt_or_ge s.i (lexL src 0).1.length with h1 | h1
  · exact hok.long _ h1
  · rw [List.getD, List.getElem?_eq_none h1]
    show ([] : List UInt8).length ≤ 1000
    simp
end Go.Proofs.YtgelggdgbmldiaaDoor
