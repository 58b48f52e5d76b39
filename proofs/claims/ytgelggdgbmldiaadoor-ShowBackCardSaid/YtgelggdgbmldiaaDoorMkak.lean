/-
  Layer 3: what is shown is parsed as it was: the whole (data). Written by an AI agent.
  What stays in memory; append of elements of many cells. Written by an AI agent.
  Layer 1: the contracts of digit, letter, blank, and of how many bytes are of a kind. Written by an AI agent.
  Layer 1: the contract of run: how many bytes at the beginning are of a kind. Written by an AI agent.
  Layer 1: the contracts of Word, name, text, said. Written by an AI agent.
-/
import Derived.Test.YtgelggdgbmldiaaDoorChecked
import Derived.Laws.OwnMore
import Derived.Laws.AppendOwnNone
import Derived.OwnWalk
import Derived.Lib.AppendZerosOnto
import Derived.Below
import Derived.Stop.Walk2
import Derived.WalkKit
import Derived.WalkLawsBesides
import Derived.WalkSpells
import Derived.Outline
import Derived.BigQuiet
import Derived.Deep.CutBlock
import Derived.Deep.CutRange
import Derived.Deep.DeepCutAuto
import Derived.Deep.RegionHeld3
import Derived.Deep.RegionLaw
import Derived.Deep.RegionWith
import Derived.StillTailTactics
import Derived.RegionTactic
import Derived.Laws.StructEq
import Derived.Lib.Hide
import Derived.Shelf.Abstract
import Derived.Test.YtgelggdgbmldiaaDoorMkaj
namespace Go.Proofs.YtgelggdgbmldiaaDoor
set_option linter.unusedVariables false
set_option linter.unusedSimpArgs false
section
variable {src : List UInt8} {T : List Tok} {N : List Nd} {D : Int} {l : List (Nat × List UInt8)} {s : PS} {B : Prop}
/-- What a statement's part is to do. -/
def StQ (src : List UInt8) (T : List Tok) (B : Prop) (M : Nat) (st : Stm) : Prop := ∀ n s N D rest, (B → WS D st) → NE rest → Sx T N D (tks (pcS st) ++ rest) s → PQ B (stM src T M n) s (fun y s' => y = ((N.length + kS st : Nat) : Int) ∧ Sx T (N ++ flS st N.length) D rest s')
def LsQ (src : List UInt8) (T : List Tok) (B : Prop) (M : Nat) (b : Bl) : Prop := ∀ n m r s N D rest, (B → WB D b) → Sx T N D (tks (pcL b) ++ (5, [125]) :: rest) s → PQ B (stmsR T (stM src T M n) m r) s (fun r' s' => r' = r ++ rootB b N.length ∧ Sx T (N ++ flB b N.length) D ((5, [125]) :: rest) s')
theorem LsQ.blk {M n : Nat} {b : Bl} {rest : List (Nat × List UInt8)} (h : LsQ src T B M b) (hB : B → D < 16 ∧ WB (D + 1) b) (hr : rest ≠ []) (hS : Sx T N D (tks (opP :: (pcL b ++ [clP])) ++ rest) s) : PQ B (blockM src T M (stM src T M n)) s (fun y s' => y = ((N.length + kB b : Nat) : Int) ∧ Sx T (N ++ flK b N.length) D rest s') := by
  rw [tks_blk] at hS
  exact block_q (M := 0) (mono_st erq_lost _ _) (fun s N D hB hS => (h n M [] s N D rest hB hS).mono fun r' s' ⟨h1, h2⟩ => ⟨by rw [h1]; simp, h2⟩) hB hr hS
/-- The words that begin statements. -/
theorem word_st {x : List UInt8} (hS : Sx T N D ((4, x) :: l) s) (y : List UInt8) : isS T [y] s = decide (x = y) := by
  rw [hS.isS]
  by_cases h : x = y
  · subst h; simp
  · simp [h]
theorem op_fol (r : List (Nat × List UInt8)) : Fol 0 ((5, [123]) :: r) := end_fol (by decide) 0 r
theorem as_print {M n : Nat} {e : Ex} {X rest : List (Nat × List UInt8)} (hx : ∀ n s N D, (B → WE 0 D e) → Sx T N D (X ++ (5, [59]) :: rest) s → PQ B (exM src T n 0) s (fun y s' => y = ((N.length + kE e : Nat) : Int) ∧ Sx T (N ++ flE e N.length) D ((5, [59]) :: rest) s'))
    (hB : B → WE 0 D e) (hne : X ≠ []) (hr : rest ≠ []) (hS : Sx T N D ((4, [112, 114, 105, 110, 116]) :: (X ++ (5, [59]) :: rest)) s) : PQ B (stM src T M n) s (fun y s' => y = ((N.length + kS (.print e) : Nat) : Int) ∧ Sx T (N ++ flS (.print e) N.length) D rest s') := by
  cases n with
  | zero => exact PQ.none
  | succ n =>
    unfold stM statementM
    refine PQ.ask ?_
    refine PQ.ask ?_
    rw [word_st hS, if_neg (by decide)]
    refine PQ.ask ?_
    rw [word_st hS, if_neg (by decide)]
    refine PQ.ask ?_
    rw [hS.calls_no (by decide), if_neg (by decide)]
    refine PQ.ask ?_
    rw [word_st hS, if_pos (by decide)]
    refine PQ.mod ?_
    refine PQ.bind (hx M _ N D hB (hS.next (by simp [hne]))) (fun _ => mono_ended erq_lost _ _) ?_
    rintro y s2 ⟨rfl, h2⟩
    refine (ended_q _ _ hr h2).mono ?_
    rintro y s3 ⟨rfl, h3⟩
    refine ⟨by rw [len_E]; unfold kS; rfl, ?_⟩
    unfold flS
    rw [← List.append_assoc]
    exact h3
theorem ex_tok {e : Ex} (hw : ∃ lv d, WE lv d e) {M : Nat} {rest : List (Nat × List UInt8)} (hB : B → WE 0 D e) (hF : Fol 0 rest) (hS : Sx T N D (tks (pcE e) ++ rest) s) : PQ B (exM src T M 0) s (fun y s' => y = ((N.length + kE e : Nat) : Int) ∧ Sx T (N ++ flE e N.length) D rest s') :=
  ((ex_full e hw).1 0 (by omega)) M s N D rest hB hF (by rw [par_no _ (by omega)]; exact hS)
theorem f_semi (r : List (Nat × List UInt8)) : Fol 0 ((5, [59]) :: r) := end_fol (by decide) 0 r
mutual
theorem st_q {M : Nat} : ∀ (st : Stm), (∃ d, WS d st) → StQ src T B M st
  | .print e, ⟨d, hw⟩ => by
    unfold WS at hw
    intro n s N D rest hB hr hS
    have e1 : tks (pcS (.print e)) ++ rest = (4, [112, 114, 105, 110, 116]) :: (tks (pcE e) ++ (5, [59]) :: rest) := by
      unfold pcS
      rw [tks_cons, List.cons_append, tks_end]
    rw [e1] at hS
    by_cases hX : tks (pcE e) = []
    · obtain ⟨k, x, k', x', r, h1, _⟩ := e_first e ⟨_, _, hw⟩ ((5, [59]) :: []) (f_semi _).nc
      rw [hX] at h1
      simp at h1
    · exact as_print (fun n s N D hB h => ex_tok ⟨_, _, hw⟩ hB (f_semi _) h) (fun b => by have := hB b; unfold WS at this; exact this) hX hr.ne hS
  | .lt x r, ⟨d, hw⟩ => by
    unfold WS at hw
    intro n s N D rest hB hr hS
    have e1 : tks (pcS (.lt x r)) ++ rest = (4, [108, 101, 116]) :: (3, x) :: (5, [61]) :: (tks (pcR r) ++ (5, [59]) :: rest) := by
      unfold pcS
      rw [tks_cons, tks_cons, tks_sg, List.cons_append, List.cons_append, List.cons_append, tks_end]
    rw [e1] at hS
    cases n with
    | zero => exact PQ.none
    | succ n =>
      unfold stM statementM
      refine PQ.ask ?_
      refine PQ.ask ?_
      rw [word_st hS, if_neg (by decide)]
      refine PQ.ask ?_
      rw [word_st hS, if_neg (by decide)]
      refine PQ.ask ?_
      rw [hS.calls_no (by decide), if_neg (by decide)]
      refine PQ.ask ?_
      rw [word_st hS, if_neg (by decide)]
      refine PQ.ask ?_
      rw [word_st hS, if_neg (by decide)]
      refine PQ.ask ?_
      rw [word_st hS, if_pos (by decide)]
      refine PQ.mod ?_
      obtain ⟨h1, h2⟩ := (hS.next (by simp)).name (by simp)
      refine PQ.ask ?_
      rw [h1]
      refine PQ.mod ?_
      refine PQ.mod ?_
      refine PQ.bind (right_q (fun b => by have := hB b; unfold WS at this; exact this.2) ⟨d, hw.2⟩ (f_semi _) (h2.want (by simp))) (fun _ => mono_ended erq_lost _ _) ?_
      rintro y s2 ⟨rfl, h3⟩
      refine (ended_q _ _ hr.ne h3).mono ?_
      rintro y s3 ⟨rfl, h4⟩
      refine ⟨by rw [len_R]; unfold kS; rfl, ?_⟩
      unfold flS
      rw [← List.append_assoc]
      exact h4
  | .set x r, ⟨d, hw⟩ => by
    unfold WS at hw
    intro n s N D rest hB hr hS
    have e1 : tks (pcS (.set x r)) ++ rest = (3, x) :: (5, [61]) :: (tks (pcR r) ++ (5, [59]) :: rest) := by
      unfold pcS
      rw [tks_cons, tks_sg, List.cons_append, List.cons_append, tks_end]
    rw [e1] at hS
    cases n with
    | zero => exact PQ.none
    | succ n =>
      unfold stM statementM
      refine PQ.ask ?_
      refine PQ.ask ?_
      rw [nameq_no (by decide) hS, if_neg (by decide)]
      refine PQ.ask ?_
      rw [nameq_no (by decide) hS, if_neg (by decide)]
      refine PQ.ask ?_
      rw [hS.calls, if_neg (by decide)]
      refine PQ.ask ?_
      rw [nameq_no (by decide) hS, if_neg (by decide)]
      refine PQ.ask ?_
      rw [nameq_no (by decide) hS, if_neg (by decide)]
      refine PQ.ask ?_
      rw [nameq_no (by decide) hS, if_neg (by decide)]
      unfold changeM
      obtain ⟨h1, h2⟩ := hS.name (by simp)
      refine PQ.ask ?_
      rw [h1]
      refine PQ.mod ?_
      refine PQ.ask ?_
      rw [h2.isS, if_neg (by decide)]
      refine PQ.mod ?_
      refine PQ.bind (right_q (fun b => by have := hB b; unfold WS at this; exact this.2) ⟨d, hw.2⟩ (f_semi _) (h2.want (by simp))) (fun _ => mono_ended erq_lost _ _) ?_
      rintro y s2 ⟨rfl, h3⟩
      refine (ended_q _ _ hr.ne h3).mono ?_
      rintro y s3 ⟨rfl, h4⟩
      refine ⟨by rw [len_R]; unfold kS; rfl, ?_⟩
      unfold flS
      rw [← List.append_assoc]
      exact h4
  | .put x a c, ⟨d, hw⟩ => by
    unfold WS at hw
    intro n s N D rest hB hr hS
    have e1 : tks (pcS (.put x a c)) ++ rest = (3, x) :: (5, [91]) :: (tks (pcE a) ++ (5, [93]) :: (5, [61]) :: (tks (pcE c) ++ (5, [59]) :: rest)) := by
      unfold pcS
      rw [tks_cons, tks_sg, tks_app, tks_sg, tks_sg, List.cons_append, List.cons_append, List.append_assoc, List.cons_append, List.cons_append, tks_end]
    rw [e1] at hS
    cases n with
    | zero => exact PQ.none
    | succ n =>
      unfold stM statementM
      refine PQ.ask ?_
      refine PQ.ask ?_
      rw [nameq_no (by decide) hS, if_neg (by decide)]
      refine PQ.ask ?_
      rw [nameq_no (by decide) hS, if_neg (by decide)]
      refine PQ.ask ?_
      rw [hS.calls, if_neg (by decide)]
      refine PQ.ask ?_
      rw [nameq_no (by decide) hS, if_neg (by decide)]
      refine PQ.ask ?_
      rw [nameq_no (by decide) hS, if_neg (by decide)]
      refine PQ.ask ?_
      rw [nameq_no (by decide) hS, if_neg (by decide)]
      unfold changeM
      obtain ⟨h1, h2⟩ := hS.name (by simp)
      refine PQ.ask ?_
      rw [h1]
      refine PQ.mod ?_
      refine PQ.ask ?_
      rw [h2.isS, if_pos (by decide)]
      have hB2 : B → D < 16 ∧ WE 0 (D + 1) a ∧ WE 0 D c := fun b => by have := hB b; unfold WS at this; exact this.2
      have mo : Mono Er (exM src T M 0) := mono_ex erq_lost _ _
      refine PQ.bind (open_q (fun b => (hB2 b).1) h2 (by simp)) (fun _ => mo.bind fun _ => (mono_shut erq_lost _).bind fun _ => Mono.want erq_lost (mo.bind fun _ => mono_ended erq_lost _ _)) ?_
      intro _ s1 h3
      refine PQ.bind (ex_tok ⟨_, _, hw.2.2.1⟩ (fun b => (hB2 b).2.1) (end_fol (by decide) 0 _) h3) (fun _ => (mono_shut erq_lost _).bind fun _ => Mono.want erq_lost (mo.bind fun _ => mono_ended erq_lost _ _)) ?_
      rintro y s2 ⟨rfl, h4⟩
      refine PQ.bind (shut_q h4 (by simp)) (fun _ => Mono.want erq_lost (mo.bind fun _ => mono_ended erq_lost _ _)) ?_
      intro _ s3 h5
      refine PQ.mod ?_
      refine PQ.bind (ex_tok ⟨_, _, hw.2.2.2⟩ (fun b => (hB2 b).2.2) (f_semi _) (h5.want (by simp))) (fun _ => mono_ended erq_lost _ _) ?_
      rintro z s4 ⟨rfl, h6⟩
      refine (ended_q _ _ hr.ne h6).mono ?_
      rintro y s5 ⟨rfl, h7⟩
      rw [len_E] at h7
      refine ⟨?_, ?_⟩
      · rw [List.length_append, len_E, flE_len]
        unfold kS
        congr 1
        omega
      · unfold flS
        rw [← List.append_assoc, ← List.append_assoc]
        exact h7
  | .doo x es, ⟨d, hw⟩ => by
    unfold WS at hw
    intro n s N D rest hB hr hS
    have e1 : tks (pcS (.doo x es)) ++ rest = tks (pcR (.call x es)) ++ (5, [59]) :: rest := by
      unfold pcS
      rw [tks_end]
    rw [e1] at hS
    have e2 : tks (pcR (.call x es)) ++ (5, [59]) :: rest = (3, x) :: (5, [40]) :: (tks (pcA es) ++ (5, [41]) :: (5, [59]) :: rest) := by
      show (3, x) :: (5, [40]) :: (tks (pcA es ++ [sgn [41]]) ++ _) = _
      rw [tks_app, List.append_assoc]
      rfl
    have hS2 := hS
    rw [e2] at hS2
    cases n with
    | zero => exact PQ.none
    | succ n =>
      unfold stM statementM
      refine PQ.ask ?_
      refine PQ.ask ?_
      rw [nameq_no (by decide) hS2, if_neg (by decide)]
      refine PQ.ask ?_
      rw [nameq_no (by decide) hS2, if_neg (by decide)]
      refine PQ.ask ?_
      rw [hS2.calls, if_pos (by decide)]
      refine PQ.bind (call_q (fun b => by have := hB b; unfold WS at this; exact this.2) (wr_ex hw) (by simp) hS) (fun _ => mono_ended erq_lost _ _) ?_
      rintro y s2 ⟨rfl, h3⟩
      refine (ended_q _ _ hr.ne h3).mono ?_
      rintro y s3 ⟨rfl, h4⟩
      refine ⟨by rw [len_R]; unfold kS; rfl, ?_⟩
      unfold flS
      rw [← List.append_assoc]
      exact h4
  | .ret0, _ => by
    intro n s N D rest hB hr hS
    have e1 : tks (pcS .ret0) ++ rest = (4, [114, 101, 116, 117, 114, 110]) :: (5, [59]) :: rest := by
      unfold pcS
      rfl
    rw [e1] at hS
    cases n with
    | zero => exact PQ.none
    | succ n =>
      unfold stM statementM
      refine PQ.ask ?_
      refine PQ.ask ?_
      rw [word_st hS, if_neg (by decide)]
      refine PQ.ask ?_
      rw [word_st hS, if_neg (by decide)]
      refine PQ.ask ?_
      rw [hS.calls_no (by decide), if_neg (by decide)]
      refine PQ.ask ?_
      rw [word_st hS, if_neg (by decide)]
      refine PQ.ask ?_
      rw [word_st hS, if_pos (by decide)]
      refine PQ.mod ?_
      refine PQ.ask ?_
      have h1 := hS.next (by simp)
      rw [h1.isS, if_pos (by decide)]
      refine (ended_q _ _ hr.ne h1).mono ?_
      rintro y s3 ⟨rfl, h4⟩
      refine ⟨by unfold kS; rfl, ?_⟩
      unfold flS
      exact h4
  | .ret1 e, ⟨d, hw⟩ => by
    unfold WS at hw
    intro n s N D rest hB hr hS
    have e1 : tks (pcS (.ret1 e)) ++ rest = (4, [114, 101, 116, 117, 114, 110]) :: (tks (pcE e) ++ (5, [59]) :: rest) := by
      unfold pcS
      rw [tks_cons, List.cons_append, tks_end]
    rw [e1] at hS
    cases n with
    | zero => exact PQ.none
    | succ n =>
      unfold stM statementM
      refine PQ.ask ?_
      refine PQ.ask ?_
      rw [word_st hS, if_neg (by decide)]
      refine PQ.ask ?_
      rw [word_st hS, if_neg (by decide)]
      refine PQ.ask ?_
      rw [hS.calls_no (by decide), if_neg (by decide)]
      refine PQ.ask ?_
      rw [word_st hS, if_neg (by decide)]
      refine PQ.ask ?_
      rw [word_st hS, if_pos (by decide)]
      refine PQ.mod ?_
      refine PQ.ask ?_
      have h1 := hS.next (by simp)
      rw [(e_first e ⟨_, _, hw⟩ _ (f_semi rest).nc).no h1 [[59]] (by decide), if_neg (by decide)]
      refine PQ.bind (ex_tok ⟨_, _, hw⟩ (fun b => by have := hB b; unfold WS at this; exact this) (f_semi _) h1) (fun _ => mono_ended erq_lost _ _) ?_
      rintro y s2 ⟨rfl, h3⟩
      refine (ended_q _ _ hr.ne h3).mono ?_
      rintro y s3 ⟨rfl, h4⟩
      refine ⟨by rw [len_E]; unfold kS; rfl, ?_⟩
      unfold flS
      rw [← List.append_assoc]
      exact h4
  | .ifs c a, ⟨d, hw⟩ => by
    have hw' := hw
    unfold WS at hw
    have ha : LsQ src T B M a := ls_q a ⟨_, hw.2.2⟩
    intro n s N D rest hB hr hS
    have hB2 : B → WE 0 D c ∧ D < 16 ∧ WB (D + 1) a := fun b => by have := hB b; unfold WS at this; exact this
    have e1 : tks (pcS (.ifs c a)) ++ rest = (4, [105, 102]) :: (tks (pcE c) ++ (tks (opP :: (pcL a ++ [clP])) ++ rest)) := by
      unfold pcS
      rw [tks_cons, List.cons_append, tks_app, List.append_assoc]
    rw [e1] at hS
    cases n with
    | zero => exact PQ.none
    | succ n =>
      unfold stM statementM
      refine PQ.ask ?_
      refine PQ.ask ?_
      rw [word_st hS, if_pos (by decide)]
      unfold choiceM
      refine PQ.mod ?_
      have mb : Mono Er (blockM src T M (stM src T M n)) := mono_block erq_lost (mono_st erq_lost _ _) _
      refine PQ.bind (ex_tok ⟨_, _, hw.1⟩ (fun b => (hB2 b).1) (by rw [tks_blk]; exact op_fol _) (hS.next (by rw [tks_blk]; simp))) (fun _ => mb.bind fun _ => Mono.ask fun _ => Mono.both (Mono.next erq_lost (mb.bind fun _ => Mono.node (erq_lost (T := T)) _ _)) (Mono.node (erq_lost (T := T)) _ _)) ?_
      rintro y s2 ⟨rfl, h3⟩
      refine PQ.bind (ha.blk (fun b => (hB2 b).2) hr.ne h3) (fun _ => Mono.ask fun _ => Mono.both (Mono.next erq_lost (mb.bind fun _ => Mono.node (erq_lost (T := T)) _ _)) (Mono.node (erq_lost (T := T)) _ _)) ?_
      rintro y s3 ⟨rfl, h4⟩
      refine PQ.ask ?_
      rw [hr.no h4, if_neg (by decide)]
      refine (node_q _ _ h4).mono ?_
      rintro y s5 ⟨rfl, h5⟩
      rw [len_K, len_E] at *
      refine ⟨?_, ?_⟩
      · unfold kS
        congr 1
        omega
      · unfold flS
        rw [← List.append_assoc, ← List.append_assoc]
        exact h5
  | .ifelse c a f, ⟨d, hw⟩ => by
    unfold WS at hw
    have ha : LsQ src T B M a := ls_q a ⟨_, hw.2.2.1⟩
    have hf : LsQ src T B M f := ls_q f ⟨_, hw.2.2.2⟩
    intro n s N D rest hB hr hS
    have hB2 : B → WE 0 D c ∧ D < 16 ∧ WB (D + 1) a ∧ WB (D + 1) f := fun b => by have := hB b; unfold WS at this; exact this
    have e1 : tks (pcS (.ifelse c a f)) ++ rest = (4, [105, 102]) :: (tks (pcE c) ++ (tks (opP :: (pcL a ++ [clP])) ++ (4, [101, 108, 115, 101]) :: (tks (opP :: (pcL f ++ [clP])) ++ rest))) := by
      unfold pcS
      rw [tks_cons, List.cons_append, tks_app, List.append_assoc, show opP :: (pcL a ++ clP :: (⟨4, [101, 108, 115, 101], []⟩ : Pc) :: opP :: (pcL f ++ [clP])) = opP :: (pcL a ++ [clP]) ++ (⟨4, [101, 108, 115, 101], []⟩ : Pc) :: opP :: (pcL f ++ [clP]) by rw [List.cons_append, List.append_assoc]; rfl, tks_app, List.append_assoc, tks_cons, List.cons_append]
      rfl
    rw [e1] at hS
    cases n with
    | zero => exact PQ.none
    | succ n =>
      unfold stM statementM
      refine PQ.ask ?_
      refine PQ.ask ?_
      rw [word_st hS, if_pos (by decide)]
      unfold choiceM
      refine PQ.mod ?_
      have mb : Mono Er (blockM src T M (stM src T M n)) := mono_block erq_lost (mono_st erq_lost _ _) _
      refine PQ.bind (ex_tok ⟨_, _, hw.1⟩ (fun b => (hB2 b).1) (by rw [tks_blk]; exact op_fol _) (hS.next (by rw [tks_blk]; simp))) (fun _ => mb.bind fun _ => Mono.ask fun _ => Mono.both (Mono.next erq_lost (mb.bind fun _ => Mono.node (erq_lost (T := T)) _ _)) (Mono.node (erq_lost (T := T)) _ _)) ?_
      rintro y s2 ⟨rfl, h3⟩
      refine PQ.bind (ha.blk (fun b => ⟨(hB2 b).2.1, (hB2 b).2.2.1⟩) (by simp) h3) (fun _ => Mono.ask fun _ => Mono.both (Mono.next erq_lost (mb.bind fun _ => Mono.node (erq_lost (T := T)) _ _)) (Mono.node (erq_lost (T := T)) _ _)) ?_
      rintro y s3 ⟨rfl, h4⟩
      refine PQ.ask ?_
      rw [word_st h4, if_pos (by decide)]
      refine PQ.mod ?_
      refine PQ.bind (hf.blk (fun b => ⟨(hB2 b).2.1, (hB2 b).2.2.2⟩) hr.ne (h4.next (by rw [tks_blk]; simp))) (fun _ => Mono.node (erq_lost (T := T)) _ _) ?_
      rintro y s4 ⟨rfl, h6⟩
      refine (node_q _ _ h6).mono ?_
      rintro y s5 ⟨rfl, h5⟩
      rw [len_K, len_K, len_E] at *
      refine ⟨?_, ?_⟩
      · unfold kS
        congr 1
        omega
      · unfold flS
        show Sx T (N ++ (flE c N.length ++ flK a (N.length + kE c + 1) ++ flK f (N.length + kE c + 1 + kB a + 1) ++ [_])) D rest s5
        rw [← List.append_assoc, ← List.append_assoc, ← List.append_assoc]
        exact h5
  | .whil c a, ⟨d, hw⟩ => by
    unfold WS at hw
    have ha : LsQ src T B M a := ls_q a ⟨_, hw.2.2⟩
    intro n s N D rest hB hr hS
    have hB2 : B → WE 0 D c ∧ D < 16 ∧ WB (D + 1) a := fun b => by have := hB b; unfold WS at this; exact this
    have e1 : tks (pcS (.whil c a)) ++ rest = (4, [119, 104, 105, 108, 101]) :: (tks (pcE c) ++ (tks (opP :: (pcL a ++ [clP])) ++ rest)) := by
      unfold pcS
      rw [tks_cons, List.cons_append, tks_app, List.append_assoc]
    rw [e1] at hS
    cases n with
    | zero => exact PQ.none
    | succ n =>
      unfold stM statementM
      refine PQ.ask ?_
      refine PQ.ask ?_
      rw [word_st hS, if_neg (by decide)]
      refine PQ.ask ?_
      rw [word_st hS, if_pos (by decide)]
      refine PQ.mod ?_
      have mb : Mono Er (blockM src T M (stM src T M n)) := mono_block erq_lost (mono_st erq_lost _ _) _
      refine PQ.bind (ex_tok ⟨_, _, hw.1⟩ (fun b => (hB2 b).1) (by rw [tks_blk]; exact op_fol _) (hS.next (by rw [tks_blk]; simp))) (fun _ => mb.bind fun _ => Mono.node (erq_lost (T := T)) _ _) ?_
      rintro y s2 ⟨rfl, h3⟩
      refine PQ.bind (ha.blk (fun b => (hB2 b).2) hr.ne h3) (fun _ => Mono.node (erq_lost (T := T)) _ _) ?_
      rintro y s3 ⟨rfl, h4⟩
      refine (node_q _ _ h4).mono ?_
      rintro y s5 ⟨rfl, h5⟩
      rw [len_K, len_E] at *
      refine ⟨?_, ?_⟩
      · unfold kS
        congr 1
        omega
      · unfold flS
        rw [← List.append_assoc, ← List.append_assoc]
        exact h5
theorem ls_q {M : Nat} : ∀ (b : Bl), (∃ d, WB d b) → LsQ src T B M b
  | .nil, _ => by
    intro n m r s N D rest hB hS
    have hS : Sx T N D ((5, [125]) :: rest) s := by unfold pcL at hS; exact hS
    cases m with
    | zero => exact PQ.none
    | succ m =>
      unfold stmsR
      refine PQ.ask ?_
      rw [hS.isS, if_neg (by simp)]
      refine PQ.ret ⟨by unfold rootB; simp, by unfold flB; rw [List.append_nil]; exact hS⟩
  | .cons st b, ⟨d, hw⟩ => by
    unfold WB at hw
    have h1 : StQ src T B M st := st_q st ⟨_, hw.1⟩
    have h2 : LsQ src T B M b := ls_q b ⟨_, hw.2⟩
    intro n m r s N D rest hB hS
    have hB2 : B → WS D st ∧ WB D b := fun b => by have := hB b; unfold WB at this; exact this
    have hS : Sx T N D (tks (pcS st) ++ (tks (pcL b) ++ (5, [125]) :: rest)) s := by
      unfold pcL at hS
      rw [tks_app, List.append_assoc] at hS
      exact hS
    cases m with
    | zero => exact PQ.none
    | succ m =>
      unfold stmsR
      refine PQ.ask ?_
      have hc : (decide (s.er = 0) && !(isS T [[125]] s)) = true := by
        rw [decide_eq_true hS.er, Bool.true_and]
        obtain ⟨k, x, t, e1, e2⟩ := s_first st
        rw [e1] at hS
        have hS : Sx T N D ((k, x) :: (t ++ (tks (pcL b) ++ (5, [125]) :: rest))) s := hS
        rw [hS.isS]
        rcases e2 with rfl | ⟨rfl, e2⟩
        · rfl
        · have := (by decide : ∀ x ∈ startS, ¬ x = [125]) x e2
          simp [this]
      rw [if_pos hc]
      refine PQ.bind (h1 n s N D _ (fun b => (hB2 b).1) (b_ne b rest) hS) (fun _ => mono_stms erq_lost (mono_st erq_lost _ _) _ _) ?_
      rintro y s2 ⟨rfl, h3⟩
      refine (h2 n m _ s2 _ D rest (fun b => (hB2 b).2) h3).mono ?_
      rintro r' s3 ⟨rfl, h4⟩
      have hl : (N ++ flS st N.length).length = N.length + kS st + 1 := by rw [List.length_append, flS_len]; omega
      rw [hl] at h4
      refine ⟨?_, ?_⟩
      · rw [hl]
        conv => rhs; unfold rootB
        simp
      · conv => enter [2]; unfold flB
        rw [← List.append_assoc]
        exact h4
end

/-! Functions. -/
theorem kind_q {t : Int} {rest : List (Nat × List UInt8)} (ht : 1 ≤ t ∧ t ≤ 4) (hr : rest ≠ []) (hS : Sx T N D ((4, wrd t) :: rest) s) : PQ B (kindM T) s (fun y s' => y = t ∧ Sx T N D rest s') := by
  have h1 : t = 1 ∨ t = 2 ∨ t = 3 ∨ t = 4 := by omega
  unfold kindM
  refine PQ.ask ?_
  rw [hS.isS, if_pos (by rcases h1 with rfl | rfl | rfl | rfl <;> decide)]
  refine PQ.ask ?_
  rw [hS.tok.2]
  refine PQ.mod ?_
  exact PQ.ret ⟨by rcases h1 with rfl | rfl | rfl | rfl <;> decide, hS.next hr⟩
theorem param_q {p : List UInt8 × Int} {rest : List (Nat × List UInt8)} (hp : WP p) (hr : rest ≠ []) (hS : Sx T N D (tks (pcM p) ++ rest) s) : PQ B (paramM T) s (fun y s' => y = p ∧ Sx T N D rest s') := by
  have hS : Sx T N D ((3, p.1) :: (4, wrd p.2) :: rest) s := hS
  obtain ⟨h1, h2⟩ := hS.name (by simp)
  unfold paramM
  refine PQ.ask ?_
  rw [h1]
  refine PQ.mod ?_
  refine PQ.bind (kind_q hp.2 hr h2) (fun _ => Mono.ret) ?_
  rintro y s2 ⟨rfl, h3⟩
  exact PQ.ret ⟨rfl, h3⟩
theorem params_q {rest : List (Nat × List UInt8)} : ∀ n (ps r : List (List UInt8 × Int)) s, (∀ p ∈ ps, WP p) → Sx T N D (tks (pcN ps) ++ (5, [41]) :: rest) s → PQ B (paramsR T n r) s (fun r' s' => r' = r ++ ps ∧ Sx T N D ((5, [41]) :: rest) s') := by
  intro n
  induction n with
  | zero => intro ps r s _ _; exact PQ.none
  | succ n ih =>
    intro ps r s hw hS
    unfold paramsR
    refine PQ.ask ?_
    cases ps with
    | nil =>
      have hS : Sx T N D ((5, [41]) :: rest) s := hS
      rw [hS.isS, if_neg (by decide)]
      exact PQ.ret ⟨by simp, hS⟩
    | cons p ps =>
      have hS : Sx T N D ((5, [44]) :: (tks (pcM p) ++ (tks (pcN ps) ++ (5, [41]) :: rest))) s := by
        have e1 : tks (pcN (p :: ps)) ++ (5, [41]) :: rest = (5, [44]) :: (tks (pcM p) ++ (tks (pcN ps) ++ (5, [41]) :: rest)) := by
          show (5, [44]) :: (tks (pcM p ++ pcN ps) ++ (5, [41]) :: rest) = _
          rw [tks_app, List.append_assoc]
        rw [← e1]
        exact hS
      rw [hS.isS, if_pos (by decide)]
      refine PQ.mod ?_
      refine PQ.bind (param_q (hw p (by simp)) (by simp) (hS.next (by simp))) (fun _ => mono_params erq_lost _ _) ?_
      rintro y s2 ⟨rfl, h3⟩
      refine (ih ps (r ++ [y]) s2 (fun q hq => hw q (by simp [hq])) h3).mono ?_
      rintro r' s3 ⟨rfl, h4⟩
      exact ⟨by simp, h4⟩
/-- A function's tokens, of what its block's statements are. -/
def fnToks (f : Fnc) (X rest : List (Nat × List UInt8)) : List (Nat × List UInt8) := (4, [102, 110]) :: (3, f.s) :: (5, [40]) :: (tks (pcO f.ps) ++ (5, [41]) :: (tks (pcW f.ret) ++ (5, [123]) :: (X ++ (5, [125]) :: rest)))
theorem function_q {M : Nat} {f : Fnc} {b : Bl} {X rest : List (Nat × List UInt8)} (hp : ∀ p ∈ f.ps, WP p) (hret : 0 ≤ f.ret ∧ f.ret ≤ 4)
    (hblk : ∀ s N D, (B → D < 16 ∧ WB (D + 1) b) → Sx T N D ((5, [123]) :: (X ++ (5, [125]) :: rest)) s → PQ B (blockM src T M (stM src T M M)) s (fun y s' => y = ((N.length + kB b : Nat) : Int) ∧ Sx T (N ++ flK b N.length) D rest s'))
    (hB : B → WB 1 b) (hS : Sx T N 0 (fnToks f X rest) s) : PQ B (functionM src T M) s (fun g s' => (∃ ln, g = { f with ln := ln, body := ((N.length + kB b : Nat) : Int) }) ∧ Sx T (N ++ flK b N.length) 0 rest s') := by
  unfold fnToks at hS
  unfold functionM
  refine PQ.ask ?_
  refine PQ.mod ?_
  obtain ⟨h1, h2⟩ := (hS.want4 (by simp)).name (by simp)
  refine PQ.ask ?_
  rw [h1]
  refine PQ.mod ?_
  refine PQ.mod ?_
  have h3 := h2.want (by simp)
  have mb : Mono Er (blockM src T M (stM src T M M)) := mono_block erq_lost (mono_st erq_lost _ _) _
  refine PQ.bind (R := fun r s' => r = f.ps ∧ Sx T N 0 ((5, [41]) :: (tks (pcW f.ret) ++ (5, [123]) :: (X ++ (5, [125]) :: rest))) s') ?_ (fun _ => Mono.want erq_lost ((mono_ret erq_lost).bind fun _ => mb.bind fun _ => Mono.ret)) ?_
  · unfold paramsM
    refine PQ.ask ?_
    cases hps : f.ps with
    | nil =>
      rw [hps] at h3
      have h3 : Sx T N 0 ((5, [41]) :: (tks (pcW f.ret) ++ (5, [123]) :: (X ++ (5, [125]) :: rest))) _ := h3
      rw [h3.isS, if_pos (by decide)]
      exact PQ.ret ⟨rfl, h3⟩
    | cons p l =>
      rw [hps] at h3 hp
      have e1 : ∀ R, tks (pcO (p :: l)) ++ R = tks (pcM p) ++ (tks (pcN l) ++ R) := fun R => by
        show tks (pcM p ++ pcN l) ++ R = _
        rw [tks_app, List.append_assoc]
      rw [e1] at h3
      have h4 : Sx T N 0 ((3, p.1) :: (4, wrd p.2) :: (tks (pcN l) ++ (5, [41]) :: (tks (pcW f.ret) ++ (5, [123]) :: (X ++ (5, [125]) :: rest)))) _ := h3
      rw [nameq_no (by decide) h4, if_neg (by decide)]
      refine PQ.bind (param_q (hp p (by simp)) (by simp) h3) (fun _ => mono_params erq_lost _ _) ?_
      rintro y s2 ⟨rfl, h5⟩
      refine (params_q M l [y] s2 (fun q hq => hp q (by simp [hq])) h5).mono ?_
      rintro r' s3 ⟨rfl, h6⟩
      exact ⟨rfl, h6⟩
  rintro r s2 ⟨rfl, h4⟩
  refine PQ.mod ?_
  have h5 := h4.want (by simp)
  refine PQ.bind (R := fun t s' => t = f.ret ∧ Sx T N 0 ((5, [123]) :: (X ++ (5, [125]) :: rest)) s') ?_ (fun _ => mb.bind fun _ => Mono.ret) ?_
  · unfold retM
    refine PQ.ask ?_
    unfold pcW at h5
    by_cases h0 : f.ret = 0
    · rw [if_pos h0] at h5
      have h5 : Sx T N 0 ((5, [123]) :: (X ++ (5, [125]) :: rest)) _ := h5
      rw [h5.isS, if_pos (by decide)]
      exact PQ.ret ⟨h0.symm, h5⟩
    · rw [if_neg h0] at h5
      have h5 : Sx T N 0 ((4, wrd f.ret) :: (5, [123]) :: (X ++ (5, [125]) :: rest)) _ := h5
      rw [h5.isS, if_neg (by
        have h1 : f.ret = 1 ∨ f.ret = 2 ∨ f.ret = 3 ∨ f.ret = 4 := by omega
        rcases h1 with h | h | h | h <;> rw [h] <;> decide)]
      exact kind_q (by omega) (by simp) h5
  rintro t s3 ⟨rfl, h6⟩
  refine PQ.bind (hblk _ _ _ (fun b => ⟨by decide, hB b⟩) h6) (fun _ => Mono.ret) ?_
  rintro y s4 ⟨rfl, h7⟩
  exact PQ.ret ⟨⟨_, rfl⟩, h7⟩
theorem fn_toks (p : Fnc × Bl) (rest : List (Nat × List UInt8)) : tks (pcF p) ++ rest = fnToks p.1 (tks (pcL p.2)) rest := by
  unfold pcF fnToks
  rw [tks_cons, tks_cons, tks_sg, tks_app, tks_sg, tks_app]
  show _ = (4, [102, 110]) :: (3, p.1.s) :: (5, [40]) :: (tks (pcO p.1.ps) ++ (5, [41]) :: (tks (pcW p.1.ret) ++ (5, [123]) :: (tks (pcL p.2) ++ (5, [125]) :: rest)))
  rw [← tks_blk]
  simp only [List.cons_append, List.append_assoc]
/-- A function but for its line. -/
def fz (f : Fnc) : Fnc := { f with ln := 0 }
theorem fns_q {M : Nat} : ∀ n (ps : List (Fnc × Bl)) (r : List Fnc) s N, (∀ p ∈ ps, WF p.1 p.2) → BodyOK ps N.length → Sx T N 0 (tks (pcT ps) ++ [(0, [])]) s → PQ True (fnsR src T M n r) s (fun r' s' => r'.map fz = r.map fz ++ ps.map (fun p => fz p.1) ∧ Sx T (N ++ flT ps N.length) 0 [(0, [])] s') := by
  intro n
  induction n with
  | zero => intro ps r s N _ _ _; exact PQ.none
  | succ n ih =>
    intro ps r s N hw hb hS
    unfold fnsR
    refine PQ.ask ?_
    cases ps with
    | nil =>
      have hS : Sx T N 0 [(0, [])] s := hS
      rw [if_neg (by rw [hS.tok.1]; simp)]
      exact PQ.ret ⟨by simp, by show Sx T (N ++ []) 0 _ s; rw [List.append_nil]; exact hS⟩
    | cons p ps =>
      have e1 : tks (pcT (p :: ps)) ++ [(0, [])] = fnToks p.1 (tks (pcL p.2)) (tks (pcT ps) ++ [(0, [])]) := by
        show tks (pcF p ++ pcT ps) ++ _ = _
        rw [tks_app, List.append_assoc, fn_toks]
      rw [e1] at hS
      have h1 := hw p (by simp)
      rw [if_pos (by
        have : (tokA T s).k = 4 := hS.tok.1
        rw [this, decide_eq_true hS.er]
        decide)]
      refine PQ.bind (function_q h1.2.1 h1.2.2.1 (fun s N D hB hS => (ls_q (src := src) (T := T) (B := True) (M := M) p.2 ⟨_, h1.2.2.2⟩).blk hB (by simp) (by rw [tks_blk]; exact hS)) (fun _ => h1.2.2.2) hS) (fun _ => mono_fns erq_lost _ _ _) ?_
      rintro g s2 ⟨⟨ln, rfl⟩, h2⟩
      obtain ⟨hb1, hb2⟩ := hb
      refine (ih ps _ s2 _ (fun q hq => hw q (by simp [hq])) (by rw [len_K]; exact hb2) h2).mono ?_
      rintro r' s3 ⟨h3, h4⟩
      rw [len_K] at h4
      refine ⟨?_, ?_⟩
      · rw [h3, List.map_append, List.append_assoc]
        congr 1
        show [fz _] ++ _ = fz p.1 :: _
        rw [← hb1]
        rfl
      · show Sx T (N ++ (flK p.2 N.length ++ flT ps (N.length + kB p.2 + 1))) 0 _ s3
        rw [← List.append_assoc]
        exact h4
/-- What is shown of a tree, if it is short enough, is a source with this tree, but for lines. -/
theorem text_back {nd : List Nd} {fs : List Fnc} {ps : List (Fnc × Bl)} (h : WT nd fs ps) (hn : nd.length ≤ 300) (hf : fs.length ≤ 6) (hp : ∀ f ∈ fs, f.ps.length ≤ 3) (hl : (rend (pcT ps)).length ≤ 600) : ∃ nd' fs', allP 6100 (rend (pcT ps)) = some (.inr (nd', fs')) ∧ nd'.map uz = nd.map uz ∧ fs'.map fz = fs.map fz := by
  obtain ⟨T, h1, h2⟩ := lex_pcs (pcT ps) (rend (pcT ps)).length 0 (t_lex ps h.ok none) (Nat.le_refl _)
  have hL : lexL (rend (pcT ps)) 0 = (T, none) := h1
  obtain ⟨res, hres⟩ := allP_some (rend (pcT ps)) 6100 (Nat.le_refl _)
  have hr := hres
  unfold allP at hr
  rw [if_neg (by omega), hL] at hr
  have hr : (fnsR (rend (pcT ps)) T 6100 6100 [] ⟨0, 0, 0, [], 0⟩).map (fun p => treeP p.1 p.2) = some res := hr
  cases hm : fnsR (rend (pcT ps)) T 6100 6100 [] ⟨0, 0, 0, [], 0⟩ with
  | none => rw [hm] at hr; cases hr
  | some q =>
    obtain ⟨fs', s'⟩ := q
    rw [hm] at hr
    have hr : treeP fs' s' = res := Option.some.inj hr
    have hS : Sx T [] 0 (tks (pcT ps) ++ [(0, [])]) ⟨0, 0, 0, [], 0⟩ := ⟨by unfold Rs; exact h2, rfl, rfl, rfl⟩
    rcases fns_q (src := rend (pcT ps)) (M := 6100) 6100 ps [] _ [] h.ok h.bod hS fs' s' hm with ⟨h3, h4⟩ | ⟨h3, _⟩
    · have e1 : s'.nd.map uz = nd.map uz := by
        have := h4.nd
        rw [List.nil_append] at this
        rw [this, h.nds]
        rfl
      have e2 : fs'.map fz = fs.map fz := by
        rw [h3, h.fns, List.map_map]
        rfl
      have e3 : s'.nd.length = nd.length := by have := congrArg List.length e1; rwa [List.length_map, List.length_map] at this
      have e4 : fs'.length = fs.length := by have := congrArg List.length e2; rwa [List.length_map, List.length_map] at this
      have e5 : fs'.any (fun f => decide (3 < f.ps.length)) = false := by
        rw [List.any_eq_false]
        intro f hf2
        have : fz f ∈ fs.map fz := by rw [← e2]; exact List.mem_map.2 ⟨f, hf2, rfl⟩
        obtain ⟨g, hg, e⟩ := List.mem_map.1 this
        have h5 := hp g hg
        have : f.ps = g.ps := (congrArg Fnc.ps e).symm
        rw [this]
        simpa using h5
      have e6 : (decide (300 < s'.nd.length) || decide (6 < fs'.length)) = false := by
        rw [e3, e4]
        simp
        omega
      unfold treeP at hr
      rw [if_pos h4.er, e5, e6] at hr
      refine ⟨s'.nd, fs', ?_, e1, e2⟩
      rw [hres, ← hr]
      rfl
    · exact absurd trivial h3
end
end Go.Proofs.YtgelggdgbmldiaaDoor

namespace Go.Proofs.YtgelggdgbmldiaaDoor
open Go.RowKit
set_option linter.unusedVariables false
set_option linter.unusedSimpArgs false
/-- Only blocks of S may have changed; what is new stands behind. -/
structure Keeps (S : Nat → Prop) (w w' : World) : Prop where
  os : w'.os = w.os
  tape : w'.tape = w.tape
  output : w'.output = w.output
  size : w.heap.size ≤ w'.heap.size
  block : ∀ k, k < w.heap.size → ¬ S k → w'.heap[k]? = w.heap[k]?
theorem Keeps.refl (S : Nat → Prop) (w : World) : Keeps S w w := ⟨rfl, rfl, rfl, Nat.le_refl _, fun _ _ _ => rfl⟩
theorem Keeps.mono {S T : Nat → Prop} {w w' : World} (h : Keeps S w w') (hs : ∀ k, k < w.heap.size → S k → T k) : Keeps T w w' :=
  ⟨h.os, h.tape, h.output, h.size, fun k hk hn => h.block k hk fun hs' => hn (hs k hk hs')⟩
theorem Keeps.trans {S T : Nat → Prop} {a b c : World} (h : Keeps S a b) (k : Keeps T b c) (hs : ∀ x, x < a.heap.size → T x → S x) : Keeps S a c :=
  ⟨k.os.trans h.os, k.tape.trans h.tape, k.output.trans h.output, Nat.le_trans h.size k.size,
    fun x hx hn => (k.block x (Nat.lt_of_lt_of_le hx h.size) fun ht => hn (hs x hx ht)).trans (h.block x hx hn)⟩
theorem Keeps.drew {S : Nat → Prop} {a w : World} (h : Keeps S a w) : Keeps S a w.drew := ⟨h.os, h.tape, h.output, h.size, h.block⟩
theorem Keeps.alloc {S : Nat → Prop} {a w : World} (h : Keeps S a w) (o : Obj) : Keeps S a (w.alloc o) :=
  h.trans (T := S) ⟨rfl, rfl, rfl, by simp, fun k hk _ => Below.heap_alloc w o k hk⟩ (fun _ _ h => h)
theorem Keeps.setCell {S : Nat → Prop} {a w : World} (h : Keeps S a w) {p : Addr} (hp : p.block < a.heap.size → S p.block) (u : Value) : Keeps S a (w.setCell p u) :=
  ⟨h.os, h.tape, h.output, by simpa using h.size, fun k hk hn => (Below.heap_setCell w p u k (fun e => hn (by subst e; exact hp hk))).trans (h.block k hk hn)⟩
theorem Keeps.grown {S : Nat → Prop} {a w w' : World} {row : Option Nat} (h : Keeps S a w) (hg : w.grownBy w' row) (hr : ∀ k, row = some k → k < a.heap.size → S k) : Keeps S a w' :=
  ⟨hg.os.trans h.os, hg.tape.trans h.tape, hg.output.trans h.output, Nat.le_trans h.size hg.size,
    fun k hk hn => (hg.block k (Nat.lt_of_lt_of_le hk h.size) fun e => hn (hr k e.symm hk)).trans (h.block k hk hn)⟩
theorem Keeps.ofBelow {S : Nat → Prop} {w w' : World} (h : Below w.heap.size w w') : Keeps S w w' := ⟨h.os, h.tape, h.output, h.size, fun k hk _ => h.block k hk⟩
theorem Keeps.toBelow {S : Nat → Prop} {B : Nat} {w w' : World} (h : Keeps S w w') (hB : B ≤ w.heap.size) (hs : ∀ k, S k → B ≤ k) : Below B w w' :=
  ⟨h.os, h.tape, h.output, h.size, fun k hk => h.block k (Nat.lt_of_lt_of_le hk hB) fun hS => absurd (hs k hS) (by omega)⟩
theorem Keeps.cell {S : Nat → Prop} {w w' : World} (h : Keeps S w w') {b o : Nat} (hb : b < w.heap.size) (hn : ¬ S b) : w'.cell? ⟨b, o, none⟩ = w.cell? ⟨b, o, none⟩ :=
  World.cell?_of_block (w := w) (h.block b hb hn)
theorem Keeps.frozen {S : Nat → Prop} {w w' : World} (h : Keeps S w w') {b o : Nat} (hb : b < w.heap.size) (hn : ¬ S b) : w'.frozen? ⟨b, o, none⟩ = w.frozen? ⟨b, o, none⟩ :=
  World.frozen?_of_block (w := w) (h.block b hb hn)
/-- A row of the call's own stays so, if its block is kept. -/
theorem ownsRow_keep {w w' : World} {base e size : Nat} {v : Value} {n : Nat} {xs : List Value} (h : w.ownsRow base e size v n xs) (hk : ∀ k, v.ownBlock = some k → w'.heap[k]? = w.heap[k]?) :
    w'.ownsRow base e size v n xs := by
  refine ⟨h.1, ?_⟩
  rcases h.2 with h0 | ⟨g, cap, cur, rfl, hb, hg, r⟩
  · exact .inl h0
  · exact .inr ⟨g, cap, cur, rfl, hb, (hk g rfl).trans hg, r⟩
theorem own_ltk {w : World} {base e size : Nat} {v : Value} {n : Nat} {xs : List Value} (h : w.ownsRow base e size v n xs) {k : Nat} (hk : v.ownBlock = some k) : k < w.heap.size := (h.lt k hk).2
theorem own_formk {w : World} {b e size : Nat} {v : Value} {n : Nat} {xs : List Value} (h : w.ownsRow b e size v n xs) : ∃ A c, v = .slice A n c := by
  rcases h.2 with ⟨e1, h0⟩ | ⟨g, cap, cur, e1, _⟩
  · exact ⟨none, 0, by rw [e1, h0]⟩
  · exact ⟨_, cap, e1⟩
theorem cell_ltk {w : World} {b o : Nat} {v : Value} (h : w.cell? ⟨b, o, none⟩ = some v) : b < w.heap.size := by
  rcases Nat.lt_or_ge b w.heap.size with h1 | h1
  · exact h1
  · have e : w.heap[b]? = none := Array.getElem?_eq_none h1
    unfold World.cell? at h
    simp [e] at h
theorem drew_keeps (w : World) (n : Nat) : Keeps (fun _ => False) w (w.drewN n) := ⟨rfl, rfl, rfl, Nat.le_refl _, fun _ _ _ => rfl⟩
/-- 'append' of elements of many cells onto a row of the call's own, and where the new row lies. -/
theorem run_append_atk {P : Program} (w : World) (base : Nat) (t ty e : TypeId) (i : TypeInfo) (z : Value) (size bytes : Nat) (ht : P.underlying t = some (.slice e)) (hi : P.info? e = some i) (hz : i.zero = some z)
    (hsize : i.size = size) (hby : i.bytes = bytes) (hzs : z.cells.size = size) (hsz : 0 < size)
    (v : Value) (n : Nat) (xs : List Value) (hown : w.ownsRow base e size v n xs)
    (a : Addr) (m c : Nat) (news : List Value) (hl : news.length = m * size) (hnews : ∀ j u, news[j]? = some u → w.cell? (a.add j) = some u) (h1 : ∀ u ∈ news, u.oneCell' = true)
    (h63 : n + m ≤ maxLen) (hbytes : (n + m) * bytes ≤ 140737488355328) (hbase : base ≤ w.heap.size) :
    ∃ v' w', (Builtin.append_ #[t, t] ty #[v, .slice (some a) m c]).run P w = .ok v' w' ∧ w'.ownsRow base e size v' (n + m) (xs ++ news) ∧ w.grownBy w' v.ownBlock ∧
      (v'.ownBlock = v.ownBlock ∨ v'.ownBlock = some w.heap.size) := by
  have hmi : news.length = m * i.size := by rw [hsize]; exact hl
  obtain ⟨v', w', hr, ho, hg, hn⟩ := run_append_own (P := P) (w := w) base t ty e i z size bytes ht hi hz hsize hby hzs hsz v n xs hown a m c news hl hnews h1 h63 hbytes hbase
  refine ⟨v', w', hr, ho, hg, ?_⟩
  have h63' : n + m ≤ 9223372036854775807 := by simp only [maxLen] at h63; omega
  rcases hown.2 with ⟨rfl, rfl⟩ | ⟨g, cap, cur, rfl, hbg, hgg, hnc, hcm, hcs, htake⟩
  · by_cases hm : m = 0
    · left
      rw [hn.2 ⟨rfl, hm⟩]
    · right
      rw [run_append_nil (P := P) w t ty e i z ht hi hz a m c news hmi hnews (by omega) (by omega) (by rw [hby]; simp only [Nat.zero_add] at hbytes; omega)] at hr
      cases hr
      rfl
  · by_cases hroom : n + m ≤ cap
    · left
      rw [run_append_room (P := P) w t ty e i ht hi g n cap cur hgg a m c news hmi hnews h1 hroom (by rw [hsize, hcs, hl, ← Nat.add_mul]; exact Nat.mul_le_mul_right _ hroom)] at hr
      cases hr
      rfl
    · right
      have holds : ∀ j u, xs[j]? = some u → w.cell? ((⟨g, 0, none⟩ : Addr).add j) = some u := hown.cells (g := g) rfl
      rw [run_append_grow (P := P) w t ty e i z ht hi hz ⟨g, 0, none⟩ n cap xs (by rw [hsize]; exact hown.1) holds a m c news hmi hnews (by omega) (by omega) (growslice_fits (by omega) (by rw [hby]; exact hbytes))] at hr
      cases hr
      rfl
theorem wpList_append_atk {P : Program} {w : World} {ops : Array Oper} {rest : List Oper} {o : Oper} {a : Act} {Q : Exit → Act → World → Prop} (hgd : o.guard = none) (s x : Operand) (t : TypeId)
    (ho : o.op = .call { callee := .builtin .append, args := #[s, x], argTypes := #[t, t] })
    (base : Nat) (e : TypeId) (i : TypeInfo) (z : Value) (size bytes : Nat) (ht : P.underlying t = some (.slice e)) (hi : P.info? e = some i) (hz : i.zero = some z)
    (hsize : i.size = size) (hby : i.bytes = bytes) (hzs : z.cells.size = size) (hsz : 0 < size)
    (v : Value) (n : Nat) (xs : List Value) (hs : a.eval s = v) (hown : w.ownsRow base e size v n xs)
    (ad : Addr) (m c : Nat) (news : List Value) (hx : a.eval x = .slice (some ad) m c) (hl : news.length = m * size) (hnews : ∀ j u, news[j]? = some u → w.cell? (ad.add j) = some u) (h1 : ∀ u ∈ news, u.oneCell' = true)
    (h63 : n + m ≤ 1000000) (hby2 : bytes ≤ 64) (hbase : base ≤ w.heap.size)
    (h : ∀ v' w', w'.ownsRow base e size v' (n + m) (xs ++ news) → w.grownBy w' v.ownBlock → (v'.ownBlock = v.ownBlock ∨ v'.ownBlock = some w.heap.size) → wpList P ops Q rest (a.put o.dst v') w') :
    wpList P ops Q (o :: rest) a w := by
  have hb : (n + m) * bytes ≤ 140737488355328 := Nat.le_trans (Nat.mul_le_mul h63 hby2) (by omega)
  obtain ⟨v', w', hrun, q1, q2, q3⟩ := run_append_atk (P := P) w base t o.type e i z size bytes ht hi hz hsize hby hzs hsz v n xs hown ad m c news hl hnews h1 (by unfold maxLen; omega) hb hbase
  exact Lib.wpList_append_run w hgd s x t t ho v _ hs hx v' w' hrun (h v' w' q1 q2 q3)
end Go.Proofs.YtgelggdgbmldiaaDoor

namespace Go.Proofs.YtgelggdgbmldiaaDoor
open Go.RowKit
set_option linter.unusedVariables false
set_option linter.unusedSimpArgs false
theorem u8_lt (c : UInt8) : c.toNat < 256 := c.toNat_lt
end Go.Proofs.YtgelggdgbmldiaaDoor

namespace Go.Proofs.YtgelggdgbmldiaaDoor
open Go.RowKit Go.Shelf
set_option linter.unusedVariables false
set_option linter.unusedSimpArgs false
theorem at_byte (s : ByteArray) (k : Nat) (h : k < s.size) : s.data.toList[k]? = some s[k] := by
  have h2 : k < s.data.toList.length := by simpa using h
  rw [List.getElem?_eq_getElem h2]
  rfl
end Go.Proofs.YtgelggdgbmldiaaDoor

namespace Go.Proofs.YtgelggdgbmldiaaDoor
open Go.RowKit
set_option linter.unusedVariables false
set_option linter.unusedSimpArgs false
theorem toList_data (s : ByteArray) : s.toList = s.data.toList := Lib.toList_data s
theorem bytes_ext {a b : ByteArray} (h : a.data.toList = b.data.toList) : a = b := by
  obtain ⟨x⟩ := a
  obtain ⟨y⟩ := b
  have : x = y := Array.toList_inj.1 h
  rw [this]
theorem ext_take (s : ByteArray) (k : Nat) : (s.extract 0 k).data.toList = s.data.toList.take k := by simp
theorem ext_drop (s : ByteArray) (k : Nat) : (s.extract k s.size).data.toList = s.data.toList.drop k := by
  simp
  rw [List.take_of_length_le]
  have : s.data.toList.length = s.size := by simp
  rw [List.length_drop, this]
  exact Nat.le_refl _
theorem ext_size2 (s : ByteArray) (k : Nat) : (s.extract k s.size).size = s.size - k := by simp
theorem len_size (s : ByteArray) : s.data.toList.length = s.size := by simp
theorem word_beq (s : ByteArray) (l : List UInt8) : (s.toList == l) = decide (s.data.toList = l) := by
  rw [toList_data, Bool.eq_iff_iff]
  simp
/-- Bytes as a string. -/
def ofL (l : List UInt8) : ByteArray := ⟨l.toArray⟩
theorem ofL_list (l : List UInt8) : (ofL l).data.toList = l := by simp [ofL]
theorem ofL_size (l : List UInt8) : (ofL l).size = l.length := by rw [← len_size, ofL_list]
theorem ofL_of {s : ByteArray} {l : List UInt8} (h : s.data.toList = l) : s = ofL l := bytes_ext (by rw [h, ofL_list])
end Go.Proofs.YtgelggdgbmldiaaDoor
