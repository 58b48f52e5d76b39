/-
  Layer 3: what is shown may stand as tokens (data). Written by an AI agent.
  Layer 2: two runs of the parser's data, side by side: what is lost stays so; what is alike stays alike, or is lost. Written by an AI agent.
-/
import Derived.Test.YtgelggdgbmldiaaDoorMkag
namespace Go.Proofs.YtgelggdgbmldiaaDoor
set_option linter.unusedVariables false
set_option linter.unusedSimpArgs false

/-! Numerals. -/
theorem numV_app (l : List UInt8) (c : UInt8) : numV (l ++ [c]) = numV l * 10 + (c.toNat - 48) := by unfold numV; rw [List.foldl_append]; rfl
theorem digitq_toNat (k : Nat) (h : k < 10) : (UInt8.ofNat (48 + k)).toNat = 48 + k := by
  rw [UInt8.toNat_ofNat']
  exact Nat.mod_eq_of_lt (by omega)
open Lib in
theorem dec_num (u : Nat) : numV (decDigits u) = u ∧ (∀ c ∈ decDigits u, dig c = true) ∧ decDigits u ≠ [] := by
  induction u using Nat.strongRecOn with
  | _ u ih =>
    by_cases h : u < 10
    · have ht := digitq_toNat u h
      rw [decDigits, dif_pos h]
      refine ⟨?_, fun c hc => ?_, by simp⟩
      · unfold numV
        show 0 * 10 + ((UInt8.ofNat (48 + u)).toNat - 48) = u
        omega
      · rw [List.mem_singleton.1 hc]
        unfold dig
        simp
        omega
    · obtain ⟨h1, h2, h3⟩ := ih (u / 10) (by omega)
      have ht := digitq_toNat (u % 10) (by omega)
      rw [decDigits, dif_neg h]
      refine ⟨?_, fun c hc => ?_, by simp⟩
      · rw [numV_app, h1]
        omega
      · rcases List.mem_append.1 hc with hc | hc
        · exact h2 c hc
        · rw [List.mem_singleton.1 hc]
          unfold dig
          simp
          omega
open Lib in
theorem dec_len (u : Nat) : (decDigits u).length = 1 ∨ 10 ^ ((decDigits u).length - 1) ≤ u := by
  induction u using Nat.strongRecOn with
  | _ u ih =>
    by_cases h : u < 10
    · left
      rw [decDigits, dif_pos h]
      rfl
    · right
      have h1 := ih (u / 10) (by omega)
      rw [decDigits, dif_neg h, List.length_append]
      show 10 ^ ((decDigits (u / 10)).length + 1 - 1) ≤ u
      rw [Nat.add_sub_cancel]
      rcases h1 with h1 | h1
      · rw [h1]; omega
      · have hp : (decDigits (u / 10)).length = ((decDigits (u / 10)).length - 1) + 1 ∨ (decDigits (u / 10)).length = 0 := by omega
        rcases hp with hp | hp
        · rw [hp, Nat.pow_succ]
          omega
        · rw [hp]
          omega
theorem itoa_tok {n : Int} (h0 : 0 ≤ n) (h1 : n ≤ 9223372036854775807) : TokP 1 (Lib.itoa n) ∧ intV (Lib.itoa n) = n := by
  obtain ⟨u, rfl⟩ : ∃ u : Nat, n = (u : Int) := ⟨n.toNat, by omega⟩
  rw [Lib.itoa_nonneg]
  obtain ⟨h2, h3, h4⟩ := dec_num u
  refine ⟨.inl ⟨rfl, h4, h3, by rw [h2]; omega, ?_⟩, ?_⟩
  · rcases dec_len u with h5 | h5
    · omega
    · rcases Nat.lt_or_ge 19 (Lib.decDigits u).length with h6 | h6
      · exfalso
        have h7 : 10 ^ 19 ≤ 10 ^ ((Lib.decDigits u).length - 1) := Nat.pow_le_pow_right (by decide) (by omega)
        have : (10 : Nat) ^ 19 = 10000000000000000000 := by decide
        omega
      · exact h6
  · unfold intV
    rw [h2, if_pos (by omega)]

/-! Expressions. -/
def fol : Option UInt8 → Prop
  | none => True
  | some c => nmc c = false
theorem fol_nx {k : Nat} {x : List UInt8} (hk : k ≠ 5) : ∀ {c : Option UInt8}, fol c → nxOK k x c
  | none, _ => trivial
  | some c, h => ⟨fun _ => by
      have h : nmc c = false := h
      unfold nmc at h
      simp at h
      exact h.1.2, fun _ => h, fun h => absurd h hk⟩
theorem nx_plain {x : List UInt8} (h : x ≠ [47] ∧ x ≠ [60] ∧ x ≠ [61] ∧ x ≠ [33]) : ∀ {c : Option UInt8}, nxOK 5 x c
  | none => trivial
  | some c => ⟨fun h => (by cases h), fun h => (by rcases h with h | h <;> cases h), fun _ => ⟨fun e => absurd e h.1, fun e => by rcases e with e | e | e; exact absurd e h.2.1; exact absurd e h.2.2.1; exact absurd e h.2.2.2⟩⟩
def beg (o : Option UInt8) : Prop := ∃ d, o = some d ∧ d ≠ 61 ∧ d ≠ 47
theorem nx_beg {x : List UInt8} {c : Option UInt8} (h : beg c) : nxOK 5 x c := by
  obtain ⟨d, rfl, h1, h2⟩ := h
  exact ⟨fun h => (by cases h), fun h => (by rcases h with h | h <;> cases h), fun _ => ⟨fun _ => h2, fun _ => h1⟩⟩
/-- A sign by itself, and what it must not have behind it. -/
theorem lex_sg {x : List UInt8} {l : List Pc} {c : Option UInt8} (h : TokP 5 x) (hn : nxOK 5 x (hdP l c)) (hl : LexP l c) : LexP (sgn x :: l) c := ⟨h, fun d hd => (by cases hd), hn, hl⟩
theorem lex_b {k : Nat} {x : List UInt8} {d : UInt8} {l : List Pc} {c : Option UInt8} (h : TokP k x) (hd : d = 32 ∨ d = 10) (hl : LexP l c) : LexP (⟨k, x, [d]⟩ :: l) c := by
  refine ⟨h, fun e he => by rw [List.mem_singleton.1 he]; exact hd, ?_, hl⟩
  show nxOK k x (some d)
  rcases hd with rfl | rfl
  · exact ⟨fun _ => rfl, fun _ => rfl, fun _ => ⟨fun _ => by decide, fun _ => by decide⟩⟩
  · exact ⟨fun _ => rfl, fun _ => rfl, fun _ => ⟨fun _ => by decide, fun _ => by decide⟩⟩
theorem lex_w {k : Nat} {x : List UInt8} {l : List Pc} {c : Option UInt8} (h : TokP k x) (hk : k ≠ 5) (hf : fol (hdP l c)) (hl : LexP l c) : LexP (⟨k, x, []⟩ :: l) c := ⟨h, fun d hd => (by cases hd), fol_nx hk hf, hl⟩
theorem tok_sg {c : UInt8} (h : c ∈ onesL) : TokP 5 [c] := .inr (.inr (.inr (.inr ⟨rfl, .inr ⟨c, h, rfl⟩⟩)))
theorem tok_word {x : List UInt8} (h : x ∈ wordsL) : TokP 4 x := .inr (.inr (.inr (.inl ⟨rfl, h⟩)))
theorem tok_name {x : List UInt8} (h : NameOK x) : TokP 3 x := .inr (.inr (.inl ⟨rfl, h⟩))
theorem tok_sign {s : List UInt8} (h : s ∈ signs11) : TokP 5 s ∧ ∀ l c, fol (hdP (sgn s :: l) c) := by
  have h0 : ∀ s ∈ signs11, (s ∈ twosL ∨ s = [s.headD 0] ∧ s.headD 0 ∈ onesL) ∧ s ≠ [] ∧ nmc (s.headD 0) = false := by decide
  obtain ⟨h1, h2, h3⟩ := h0 s h
  refine ⟨.inr (.inr (.inr (.inr ⟨rfl, ?_⟩))), fun l c => ?_⟩
  · rcases h1 with h1 | ⟨h1, h4⟩
    · exact .inl h1
    · exact .inr ⟨_, h4, h1⟩
  · obtain ⟨d, y, rfl⟩ := List.exists_cons_of_ne_nil h2
    exact h3
theorem beg_name {s : List UInt8} (h : NameOK s) (b : List UInt8) (l : List Pc) (c : Option UInt8) : beg (hdP (⟨3, s, b⟩ :: l) c) := by
  obtain ⟨h1, h2, _⟩ := h
  obtain ⟨d, y, rfl⟩ := List.exists_cons_of_ne_nil h1
  have hd : ltr d = true := h2
  refine ⟨d, rfl, ?_, ?_⟩
  · rintro rfl; exact absurd hd (by decide)
  · rintro rfl; exact absurd hd (by decide)
theorem par_lex {l : List Pc} (b : Bool) (h : ∀ c, fol c → LexP l c) (h2 : ∀ c, beg (hdP l c)) : (∀ c, fol c → LexP (parP b l) c) ∧ ∀ c, beg (hdP (parP b l) c) := by
  unfold parP
  cases b with
  | false => exact ⟨h, h2⟩
  | true =>
    refine ⟨fun c hc => lex_sg (tok_sg (by decide)) (nx_plain (by decide)) (LexP_append l [sgn [41]] c (h _ (by show nmc 41 = false; decide)) (lex_sg (tok_sg (by decide)) (nx_plain (by decide)) trivial)), fun c => ⟨40, rfl, by decide, by decide⟩⟩
theorem exp_lex : ∀ e : Ex, (∃ lv d, WE lv d e) → (∀ c, fol c → LexP (pcE e) c) ∧ ∀ c, beg (hdP (pcE e) c) := by
  intro e
  induction e with
  | int n =>
    rintro ⟨lv, d, h⟩
    have h1 := (itoa_tok h.1 h.2).1
    refine ⟨fun c hc => lex_w h1 (by decide) hc trivial, fun c => ?_⟩
    rcases h1 with ⟨_, h2, h3, _⟩ | ⟨h2, _⟩ | ⟨h2, _⟩ | ⟨h2, _⟩ | ⟨h2, _⟩
    · obtain ⟨u, y, hu⟩ := List.exists_cons_of_ne_nil h2
      have h4 := dig_range (h3 u (by rw [hu]; simp))
      refine ⟨u, by show (Lib.itoa n).head? = _; rw [hu]; rfl, ?_, ?_⟩
      · rintro rfl; exact absurd h4 (by decide)
      · rintro rfl; exact absurd h4 (by decide)
    all_goals cases h2
  | bool b =>
    rintro ⟨lv, d, h⟩
    cases b with
    | true => exact ⟨fun c hc => lex_w (tok_word (by decide)) (by decide) hc trivial, fun c => ⟨116, rfl, by decide, by decide⟩⟩
    | false => exact ⟨fun c hc => lex_w (tok_word (by decide)) (by decide) hc trivial, fun c => ⟨102, rfl, by decide, by decide⟩⟩
  | text s =>
    rintro ⟨lv, d, h⟩
    exact ⟨fun c hc => lex_w (.inr (.inl ⟨rfl, h⟩)) (by decide) hc trivial, fun c => ⟨34, rfl, by decide, by decide⟩⟩
  | var s =>
    rintro ⟨lv, d, h⟩
    exact ⟨fun c hc => lex_w (tok_name h) (by decide) hc trivial, fun c => beg_name h _ _ c⟩
  | index s a ih =>
    rintro ⟨lv, d, h⟩
    obtain ⟨h1, h2⟩ := ih ⟨_, _, h.2.2⟩
    refine ⟨fun c hc => lex_w (tok_name h.1) (by decide) (by show nmc 91 = false; decide) (lex_sg (tok_sg (by decide)) (nx_plain (by decide)) (LexP_append _ [sgn [93]] c (h1 _ (by show nmc 93 = false; decide)) (lex_sg (tok_sg (by decide)) (nx_plain (by decide)) trivial))), fun c => beg_name h.1 _ _ c⟩
  | len a ih =>
    rintro ⟨lv, d, h⟩
    obtain ⟨h1, h2⟩ := ih ⟨_, _, h.2⟩
    refine ⟨fun c hc => lex_w (tok_word (by decide)) (by decide) (by show nmc 40 = false; decide) (lex_sg (tok_sg (by decide)) (nx_plain (by decide)) (LexP_append _ [sgn [41]] c (h1 _ (by show nmc 41 = false; decide)) (lex_sg (tok_sg (by decide)) (nx_plain (by decide)) trivial))), fun c => ⟨108, rfl, by decide, by decide⟩⟩
  | neg a ih =>
    rintro ⟨lv, d, h⟩
    obtain ⟨h1, h2⟩ := ih ⟨_, _, h.2⟩
    obtain ⟨h3, h4⟩ := par_lex (decide (lvX a < 5)) h1 h2
    exact ⟨fun c hc => lex_sg (tok_sg (by decide)) (nx_beg (h4 c)) (h3 c hc), fun c => ⟨45, rfl, by decide, by decide⟩⟩
  | not a ih =>
    rintro ⟨lv, d, h⟩
    obtain ⟨h1, h2⟩ := ih ⟨_, _, h.2⟩
    obtain ⟨h3, h4⟩ := par_lex (decide (lvX a < 5)) h1 h2
    exact ⟨fun c hc => lex_sg (tok_sg (by decide)) (nx_beg (h4 c)) (h3 c hc), fun c => ⟨33, rfl, by decide, by decide⟩⟩
  | bin s a b iha ihb =>
    rintro ⟨lv, d, h0, h⟩
    have hs : (∃ lv d, WE lv d a) ∧ ∃ lv d, WE lv d b := by
      split at h
      · exact ⟨⟨_, _, h.2.1⟩, ⟨_, _, h.2.2⟩⟩
      · exact ⟨⟨_, _, h.1⟩, ⟨_, _, h.2⟩⟩
    obtain ⟨h1, h2⟩ := iha hs.1
    obtain ⟨h3, h4⟩ := ihb hs.2
    obtain ⟨h5, h6⟩ := par_lex (decide (lvX a < lft (lvS s))) h1 h2
    obtain ⟨h7, h8⟩ := par_lex (decide (lvX b < lvS s + 1)) h3 h4
    obtain ⟨h9, h10⟩ := tok_sign h0
    exact ⟨fun c hc => LexP_append _ _ c (h5 _ (h10 _ _)) (lex_sg h9 (nx_beg (h8 c)) (h7 c hc)), fun c => by
      show beg (hdP (parP _ (pcE a) ++ _) c)
      rw [hdP_append]
      exact h6 _⟩
theorem c_lex (d : Int) : ∀ l : List Ex, (∀ e ∈ l, WE 0 d e) → ∀ c, fol c → LexP (pcC l) c ∧ fol (hdP (pcC l) c)
  | [], _, c, hc => ⟨trivial, hc⟩
  | e :: l, h, c, hc => by
    obtain ⟨h1, h2⟩ := exp_lex e ⟨_, _, h e (by simp)⟩
    obtain ⟨h3, h4⟩ := c_lex d l (fun q hq => h q (by simp [hq])) c hc
    exact ⟨lex_sg (tok_sg (by decide)) (nx_plain (by decide)) (LexP_append _ _ c (h1 _ h4) h3), by show nmc 44 = false; decide⟩
theorem r_lex {d : Int} {r : Rt} (h : WR d r) : (∀ c, fol c → LexP (pcR r) c) ∧ ∀ c, beg (hdP (pcR r) c) := by
  cases r with
  | ex e => exact exp_lex e ⟨_, _, h⟩
  | input => exact ⟨fun c hc => lex_w (tok_word (by decide)) (by decide) hc trivial, fun c => ⟨105, rfl, by decide, by decide⟩⟩
  | new a =>
    obtain ⟨h1, h2⟩ := exp_lex a ⟨_, _, h⟩
    exact ⟨fun c hc => lex_w (tok_word (by decide)) (by decide) (by show nmc 40 = false; decide) (lex_sg (tok_sg (by decide)) (nx_plain (by decide)) (LexP_append _ [sgn [41]] c (h1 _ (by show nmc 41 = false; decide)) (lex_sg (tok_sg (by decide)) (nx_plain (by decide)) trivial))), fun c => ⟨110, rfl, by decide, by decide⟩⟩
  | call s l =>
    refine ⟨fun c hc => lex_w (tok_name h.1) (by decide) (by show nmc 40 = false; decide) (lex_sg (tok_sg (by decide)) (nx_plain (by decide)) (LexP_append _ [sgn [41]] c ?_ (lex_sg (tok_sg (by decide)) (nx_plain (by decide)) trivial))), fun c => beg_name h.1 _ _ c⟩
    have h41 : fol (some 41) := by show nmc 41 = false; decide
    cases l with
    | nil => trivial
    | cons e l =>
      obtain ⟨h1, h2⟩ := exp_lex e ⟨_, _, h.2 e (by simp)⟩
      obtain ⟨h3, h4⟩ := c_lex d l (fun q hq => h.2 q (by simp [hq])) (some 41) h41
      exact LexP_append _ _ _ (h1 _ h4) h3
theorem f59 : fol (some 59) := by show nmc 59 = false; decide
theorem lex_end {c : Option UInt8} {l : List Pc} (h : LexP l c) : LexP (endP :: l) c := lex_b (tok_sg (by decide)) (.inr rfl) h
theorem lex_op {c : Option UInt8} {l : List Pc} (h : LexP l c) : LexP (opP :: l) c := lex_b (tok_sg (by decide)) (.inr rfl) h
theorem lex_cl {c : Option UInt8} {l : List Pc} (h : LexP l c) : LexP (clP :: l) c := lex_b (tok_sg (by decide)) (.inr rfl) h
theorem f123 (l : List Pc) (c : Option UInt8) : fol (hdP (opP :: l) c) := by show nmc 123 = false; decide
theorem lex_w61 {s : List UInt8} {l : List Pc} {c : Option UInt8} (h : NameOK s) (hb : beg (hdP l c)) (hl : LexP l c) : LexP (⟨3, s, []⟩ :: sgn [61] :: l) c := lex_w (tok_name h) (by decide) (by show nmc 61 = false; decide) (lex_sg (tok_sg (by decide)) (nx_beg hb) hl)
theorem beg_app {l : List Pc} (h : ∀ c, beg (hdP l c)) (m : List Pc) (c : Option UInt8) : beg (hdP (l ++ m) c) := by rw [hdP_append]; exact h _
mutual
theorem s_lex : ∀ (s : Stm) (d : Int), WS d s → ∀ c, LexP (pcS s) c
  | .lt s r, d, h, c => by
    unfold WS at h
    obtain ⟨h1, h2⟩ := r_lex h.2
    unfold pcS
    exact lex_b (tok_word (by decide)) (.inl rfl) (lex_w61 h.1 (beg_app h2 _ _) (LexP_append _ _ c (h1 _ f59) (lex_end trivial)))
  | .set s r, d, h, c => by
    unfold WS at h
    obtain ⟨h1, h2⟩ := r_lex h.2
    unfold pcS
    exact lex_w61 h.1 (beg_app h2 _ _) (LexP_append _ _ c (h1 _ f59) (lex_end trivial))
  | .put s a b, d, h, c => by
    unfold WS at h
    obtain ⟨h1, h2⟩ := exp_lex a ⟨_, _, h.2.2.1⟩
    obtain ⟨h3, h4⟩ := exp_lex b ⟨_, _, h.2.2.2⟩
    unfold pcS
    exact lex_w (tok_name h.1) (by decide) (by show nmc 91 = false; decide) (lex_sg (tok_sg (by decide)) (nx_plain (by decide)) (LexP_append _ _ c (h1 _ (by show nmc 93 = false; decide)) (lex_sg (tok_sg (by decide)) (nx_plain (by decide)) (lex_sg (tok_sg (by decide)) (nx_beg (beg_app h4 _ _)) (LexP_append _ _ c (h3 _ f59) (lex_end trivial))))))
  | .doo s l, d, h, c => by
    unfold WS at h
    obtain ⟨h1, h2⟩ := r_lex h
    unfold pcS
    exact LexP_append _ _ c (h1 _ f59) (lex_end trivial)
  | .print a, d, h, c => by
    unfold WS at h
    obtain ⟨h1, h2⟩ := exp_lex a ⟨_, _, h⟩
    unfold pcS
    exact lex_b (tok_word (by decide)) (.inl rfl) (LexP_append _ _ c (h1 _ f59) (lex_end trivial))
  | .ret0, d, h, c => by
    unfold pcS
    exact lex_w (tok_word (by decide)) (by decide) f59 (lex_end trivial)
  | .ret1 a, d, h, c => by
    unfold WS at h
    obtain ⟨h1, h2⟩ := exp_lex a ⟨_, _, h⟩
    unfold pcS
    exact lex_b (tok_word (by decide)) (.inl rfl) (LexP_append _ _ c (h1 _ f59) (lex_end trivial))
  | .ifs e a, d, h, c => by
    unfold WS at h
    obtain ⟨h1, h2⟩ := exp_lex e ⟨_, _, h.1⟩
    unfold pcS
    exact lex_b (tok_word (by decide)) (.inl rfl) (LexP_append _ _ c (h1 _ (f123 _ _)) (lex_op (LexP_append _ _ c (l_lex a _ h.2.2 _) (lex_cl trivial))))
  | .ifelse e a b, d, h, c => by
    unfold WS at h
    obtain ⟨h1, h2⟩ := exp_lex e ⟨_, _, h.1⟩
    unfold pcS
    exact lex_b (tok_word (by decide)) (.inl rfl) (LexP_append _ _ c (h1 _ (f123 _ _)) (lex_op (LexP_append _ _ c (l_lex a _ h.2.2.1 _) (lex_cl (lex_w (tok_word (by decide)) (by decide) (f123 _ _) (lex_op (LexP_append _ _ c (l_lex b _ h.2.2.2 _) (lex_cl trivial))))))))
  | .whil e a, d, h, c => by
    unfold WS at h
    obtain ⟨h1, h2⟩ := exp_lex e ⟨_, _, h.1⟩
    unfold pcS
    exact lex_b (tok_word (by decide)) (.inl rfl) (LexP_append _ _ c (h1 _ (f123 _ _)) (lex_op (LexP_append _ _ c (l_lex a _ h.2.2 _) (lex_cl trivial))))
theorem l_lex : ∀ (l : Bl) (d : Int), WB d l → ∀ c, LexP (pcL l) c
  | .nil, d, h, c => by unfold pcL; trivial
  | .cons s l, d, h, c => by
    unfold WB at h
    unfold pcL
    exact LexP_append _ _ c (s_lex s d h.1 _) (l_lex l d h.2 c)
end
theorem wrd_ok {t : Int} (h : 1 ≤ t ∧ t ≤ 4) : wrd t ∈ wordsL := by
  have : t = 1 ∨ t = 2 ∨ t = 3 ∨ t = 4 := by omega
  rcases this with rfl | rfl | rfl | rfl <;> decide
theorem m_lex {p : List UInt8 × Int} (h : WP p) {l : List Pc} {c : Option UInt8} (hf : fol (hdP l c)) (hl : LexP l c) : LexP (pcM p ++ l) c := lex_b (tok_name h.1) (.inl rfl) (lex_w (tok_word (wrd_ok h.2)) (by decide) hf hl)
theorem n_lex : ∀ (ps : List (List UInt8 × Int)), (∀ p ∈ ps, WP p) → ∀ (l : List Pc) c, fol (hdP l c) → LexP l c → LexP (pcN ps ++ l) c ∧ fol (hdP (pcN ps ++ l) c)
  | [], _, l, c, h1, h2 => ⟨h2, h1⟩
  | p :: ps, h, l, c, h1, h2 => by
    obtain ⟨h3, h4⟩ := n_lex ps (fun q hq => h q (by simp [hq])) l c h1 h2
    refine ⟨?_, by show nmc 44 = false; decide⟩
    show LexP (sgn [44] :: (pcM p ++ pcN ps ++ l)) c
    rw [List.append_assoc]
    exact lex_sg (tok_sg (by decide)) (nx_plain (by decide)) (m_lex (h p (by simp)) h4 h3)
theorem f_lex {p : Fnc × Bl} (h : WF p.1 p.2) (c : Option UInt8) : LexP (pcF p) c := by
  obtain ⟨h1, h2, h3, h4⟩ := h
  have hb : LexP (opP :: (pcL p.2 ++ [clP])) c := lex_op (LexP_append _ _ c (l_lex p.2 _ h4 _) (lex_cl trivial))
  have hw : LexP (sgn [41] :: (pcW p.1.ret ++ opP :: (pcL p.2 ++ [clP]))) c := by
    unfold pcW
    by_cases h0 : p.1.ret = 0
    · rw [if_pos h0]
      exact lex_sg (tok_sg (by decide)) (nx_plain (by decide)) hb
    · rw [if_neg h0]
      exact lex_sg (tok_sg (by decide)) (nx_plain (by decide)) (lex_w (tok_word (wrd_ok (by omega))) (by decide) (f123 _ _) hb)
  unfold pcF
  refine lex_b (tok_word (by decide)) (.inl rfl) (lex_w (tok_name h1) (by decide) (by show nmc 40 = false; decide) (lex_sg (tok_sg (by decide)) (nx_plain (by decide)) ?_))
  have f41 : fol (hdP (sgn [41] :: (pcW p.1.ret ++ opP :: (pcL p.2 ++ [clP]))) c) := by show nmc 41 = false; decide
  cases hps : p.1.ps with
  | nil => exact hw
  | cons q l =>
    rw [hps] at h2
    obtain ⟨h5, h6⟩ := n_lex l (fun r hr => h2 r (by simp [hr])) _ c f41 hw
    show LexP (pcM q ++ pcN l ++ _) c
    rw [List.append_assoc]
    exact m_lex (h2 q (by simp)) h6 h5
theorem t_lex : ∀ (ps : List (Fnc × Bl)), (∀ p ∈ ps, WF p.1 p.2) → ∀ c, LexP (pcT ps) c
  | [], _, c => trivial
  | p :: ps, h, c => by
    show LexP (pcF p ++ pcT ps) c
    exact LexP_append _ _ c (f_lex (h p (by simp)) _) (t_lex ps (fun q hq => h q (by simp [hq])) c)
end Go.Proofs.YtgelggdgbmldiaaDoor

namespace Go.Proofs.YtgelggdgbmldiaaDoor
set_option linter.unusedVariables false
set_option linter.unusedSimpArgs false
/-- What is lost stays so, whatever is done. -/
structure LostP (T : List Tok) (Lost : PS → Prop) : Prop where
  next : ∀ s, Lost s → Lost (nextS T s)
  fail : ∀ s e, Lost s → (e = 20 ∨ e = 21) → Lost (failS T e s)
  dp : ∀ s d, Lost s → Lost { s with dp := d }
  node : ∀ s n, Lost s → Lost { s with nd := s.nd ++ [n] }
def Mono {α : Type} (Lost : PS → Prop) (m : PM α) : Prop := ∀ s r s1, Lost s → m s = some (r, s1) → Lost s1
section
variable {src : List UInt8} {T : List Tok} {Lost : PS → Prop}
theorem Mono.bind {α β : Type} {m : PM α} {f : α → PM β} (h : Mono Lost m) (k : ∀ a, Mono Lost (f a)) : Mono Lost (m >>= f) := by
  intro s r s1 hl e
  obtain ⟨a, t, e1, e2⟩ := bind_out e
  exact k a t r s1 (h s a t hl e1) e2
theorem Mono.ask {α β : Type} {g : PS → α} {f : α → PM β} (k : ∀ a, Mono Lost (f a)) : Mono Lost (ask g >>= f) := fun s r s1 hl e => k _ s r s1 hl e
theorem Mono.ret {α : Type} {a : α} : Mono Lost (pure a) := by
  intro s r s1 hl e
  have e := pure_out e
  injection e with e1 e2
  rw [e2]
  exact hl
theorem Mono.none {α : Type} : Mono Lost (fun _ => none : PM α) := by
  intro s r s1 hl e
  cases e
theorem Mono.both {α : Type} {c : Prop} [Decidable c] {m m' : PM α} (h : Mono Lost m) (k : Mono Lost m') : Mono Lost (if c then m else m') := by
  by_cases hc : c
  · rw [if_pos hc]; exact h
  · rw [if_neg hc]; exact k
theorem lost_want (L : LostP T Lost) (x : List UInt8) (s : PS) (h : Lost s) : Lost (wantS T x s) := by
  unfold wantS
  split
  · exact L.next s h
  · exact L.fail s 20 h (by decide)
theorem lost_name (L : LostP T Lost) (s : PS) (h : Lost s) : Lost (nameS T s) := by
  unfold nameS
  split
  · exact L.next s h
  · exact L.fail s 20 h (by decide)
theorem lost_open (L : LostP T Lost) (x : List UInt8) (s : PS) (h : Lost s) : Lost (openS T x s) := by
  unfold openS
  split
  · exact lost_want L x _ (L.fail s 21 h (by decide))
  · exact lost_want L x s h
theorem Mono.mod {β : Type} {g : PS → PS} {f : Unit → PM β} (h : ∀ s, Lost s → Lost (g s)) (k : Mono Lost (f ())) : Mono Lost (mod g >>= f) := fun s r s1 hl e => k (g s) r s1 (h s hl) e
theorem Mono.want (L : LostP T Lost) {β : Type} {x : List UInt8} {f : Unit → PM β} (k : Mono Lost (f ())) : Mono Lost (Go.Proofs.YtgelggdgbmldiaaDoor.mod (wantS T x) >>= f) := Mono.mod (lost_want L x) k
theorem Mono.next (L : LostP T Lost) {β : Type} {f : Unit → PM β} (k : Mono Lost (f ())) : Mono Lost (Go.Proofs.YtgelggdgbmldiaaDoor.mod (nextS T) >>= f) := Mono.mod L.next k
theorem Mono.name (L : LostP T Lost) {β : Type} {f : Unit → PM β} (k : Mono Lost (f ())) : Mono Lost (Go.Proofs.YtgelggdgbmldiaaDoor.mod (nameS T) >>= f) := Mono.mod (lost_name L) k
theorem Mono.fail (L : LostP T Lost) {β : Type} {f : Unit → PM β} (k : Mono Lost (f ())) : Mono Lost (Go.Proofs.YtgelggdgbmldiaaDoor.mod (failS T 20) >>= f) := Mono.mod (fun s h => L.fail s 20 h (by decide)) k
theorem Mono.deep (L : LostP T Lost) (d : Int) : Mono Lost (deepS d) := by
  intro s r s1 hl e
  unfold deepS at e
  split at e
  · injection e with e
    injection e with e1 e2
    rw [← e2]
    exact L.dp s _ hl
  · cases e
theorem Mono.node (L : LostP T Lost) (n : Nd) (l : List Int) : Mono Lost (nodeM n l) := by
  intro s r s1 hl e
  unfold nodeM at e
  split at e
  · injection e with e
    injection e with e1 e2
    rw [← e2]
    exact L.node s _ hl
  · cases e
theorem mono_open (L : LostP T Lost) (x : List UInt8) : Mono Lost (openM T x) := Mono.mod (lost_open L x) (Mono.deep L 1)
theorem mono_shut (L : LostP T Lost) (x : List UInt8) : Mono Lost (shutM T x) := Mono.mod (lost_want L x) (Mono.deep L (-1))
theorem mono_inside (L : LostP T Lost) {ex : PM Int} (hx : Mono Lost ex) (a b : List UInt8) : Mono Lost (insideM T ex a b) :=
  (mono_open L a).bind fun _ => hx.bind fun _ => (mono_shut L b).bind fun _ => Mono.ret
theorem mono_variable (L : LostP T Lost) {ex : PM Int} (hx : Mono Lost ex) (ln : Int) : Mono Lost (variableM T ex ln) :=
  Mono.ask fun _ => Mono.name L (Mono.ask fun _ => Mono.both ((mono_inside L hx _ _).bind fun _ => Mono.node L _ _) (Mono.node L _ _))
theorem mono_atom (L : LostP T Lost) {ex : PM Int} (hx : Mono Lost ex) : Mono Lost (atomM src T ex) :=
  Mono.ask fun _ => Mono.ask fun _ => Mono.both (Mono.next L (Mono.node L _ _)) (Mono.both (Mono.next L (Mono.node L _ _)) (Mono.ask fun _ => Mono.both (Mono.next L (Mono.node L _ _))
    (Mono.ask fun _ => Mono.both (Mono.next L ((mono_inside L hx _ _).bind fun _ => Mono.node L _ _)) (Mono.ask fun _ => Mono.both (mono_inside L hx _ _) (mono_variable L hx _)))))
theorem mono_factor (L : LostP T Lost) {fac ex : PM Int} (hf : Mono Lost fac) (hx : Mono Lost ex) : Mono Lost (factorM src T fac ex) :=
  Mono.ask fun _ => Mono.ask fun _ => Mono.ask fun _ => Mono.both ((mono_open L _).bind fun _ => hf.bind fun _ => (Mono.deep L _).bind fun _ => Mono.node L _ _)
    (Mono.ask fun _ => Mono.both ((mono_open L _).bind fun _ => hf.bind fun _ => (Mono.deep L _).bind fun _ => Mono.node L _ _) (mono_atom L hx))
theorem mono_chain (L : LostP T Lost) {lv : Nat} {sub : PM Int} (hs : Mono Lost sub) (ln : Int) : ∀ n x, Mono Lost (chainR T lv sub ln n x) := by
  intro n
  induction n with
  | zero => intro x; exact Mono.none
  | succ n ih =>
    intro x
    exact Mono.ask fun _ => Mono.both (Mono.ask fun _ => Mono.next L (hs.bind fun _ => (Mono.node L _ _).bind fun _ => Mono.both Mono.ret (ih _))) Mono.ret
theorem mono_ex (L : LostP T Lost) : ∀ n lv, Mono Lost (exM src T n lv) := by
  intro n
  induction n with
  | zero => intro lv; exact Mono.none
  | succ n ih =>
    intro lv
    exact Mono.both (mono_factor L (ih 5) (ih 0)) (Mono.ask fun _ => (ih (lv + 1)).bind fun _ => mono_chain L (ih (lv + 1)) _ _ _)
theorem mono_comma (L : LostP T Lost) {ex : PM Int} (hx : Mono Lost ex) : ∀ n l, Mono Lost (commaR T ex n l) := by
  intro n
  induction n with
  | zero => intro l; exact Mono.none
  | succ n ih => intro l; exact Mono.ask fun _ => Mono.both (Mono.next L (hx.bind fun _ => ih _)) Mono.ret
theorem mono_args (L : LostP T Lost) {ex : PM Int} (hx : Mono Lost ex) (N : Nat) : Mono Lost (argsM T N ex) :=
  Mono.ask fun _ => Mono.both Mono.ret (hx.bind fun _ => mono_comma L hx _ _)
theorem mono_call (L : LostP T Lost) {ex : PM Int} (hx : Mono Lost ex) (N : Nat) : Mono Lost (callM src T N ex) :=
  Mono.ask fun _ => Mono.ask fun _ => Mono.name L (Mono.want L ((mono_args L hx N).bind fun _ => Mono.want L (Mono.node L _ _)))
theorem mono_right (L : LostP T Lost) {ex : PM Int} (hx : Mono Lost ex) (N : Nat) : Mono Lost (rightM src T N ex) :=
  Mono.ask fun _ => Mono.ask fun _ => Mono.both (Mono.next L (Mono.node L _ _)) (Mono.ask fun _ => Mono.both (Mono.next L (Mono.want L (hx.bind fun _ => Mono.want L (Mono.node L _ _)))) (Mono.ask fun _ => Mono.both (mono_call L hx N) hx))
theorem mono_ended (L : LostP T Lost) (n : Nd) (l : List Int) : Mono Lost (endedM T n l) := Mono.want L (Mono.node L _ _)
theorem mono_change (L : LostP T Lost) {ex : PM Int} (hx : Mono Lost ex) (N : Nat) (ln : Int) : Mono Lost (changeM src T N ex ln) :=
  Mono.ask fun _ => Mono.name L (Mono.ask fun _ => Mono.both ((mono_open L _).bind fun _ => hx.bind fun _ => (mono_shut L _).bind fun _ => Mono.want L (hx.bind fun _ => mono_ended L _ _)) (Mono.want L ((mono_right L hx N).bind fun _ => mono_ended L _ _)))
theorem mono_choice (L : LostP T Lost) {ex bl : PM Int} (hx : Mono Lost ex) (hb : Mono Lost bl) (ln : Int) : Mono Lost (choiceM T ex bl ln) :=
  Mono.next L (hx.bind fun _ => hb.bind fun _ => Mono.ask fun _ => Mono.both (Mono.next L (hb.bind fun _ => Mono.node L _ _)) (Mono.node L _ _))
theorem mono_statement (L : LostP T Lost) {ex bl : PM Int} (hx : Mono Lost ex) (hb : Mono Lost bl) (N : Nat) : Mono Lost (statementM src T N ex bl) :=
  Mono.ask fun _ => Mono.ask fun _ => Mono.both (mono_choice L hx hb _) (Mono.ask fun _ => Mono.both (Mono.next L (hx.bind fun _ => hb.bind fun _ => Mono.node L _ _))
    (Mono.ask fun _ => Mono.both ((mono_call L hx N).bind fun _ => mono_ended L _ _) (Mono.ask fun _ => Mono.both (Mono.next L (hx.bind fun _ => mono_ended L _ _))
      (Mono.ask fun _ => Mono.both (Mono.next L (Mono.ask fun _ => Mono.both (mono_ended L _ _) (hx.bind fun _ => mono_ended L _ _)))
        (Mono.ask fun _ => Mono.both (Mono.next L (Mono.ask fun _ => Mono.name L (Mono.want L ((mono_right L hx N).bind fun _ => mono_ended L _ _)))) (mono_change L hx N _))))))
theorem mono_stms (L : LostP T Lost) {st : PM Int} (hs : Mono Lost st) : ∀ n l, Mono Lost (stmsR T st n l) := by
  intro n
  induction n with
  | zero => intro l; exact Mono.none
  | succ n ih => intro l; exact Mono.ask fun _ => Mono.both (hs.bind fun _ => ih _) Mono.ret
theorem mono_block (L : LostP T Lost) {st : PM Int} (hs : Mono Lost st) (N : Nat) : Mono Lost (blockM src T N st) :=
  Mono.ask fun _ => (mono_open L _).bind fun _ => (mono_stms L hs N _).bind fun _ => (mono_shut L _).bind fun _ => Mono.node L _ _
theorem mono_st (L : LostP T Lost) (N : Nat) : ∀ n, Mono Lost (stM src T N n) := by
  intro n
  induction n with
  | zero => exact Mono.none
  | succ n ih => exact mono_statement L (mono_ex L N 0) (mono_block L ih N) N
theorem mono_kind (L : LostP T Lost) : Mono Lost (kindM T) := Mono.ask fun _ => Mono.both (Mono.ask fun _ => Mono.next L Mono.ret) (Mono.fail L Mono.ret)
theorem mono_param (L : LostP T Lost) : Mono Lost (paramM T) := Mono.ask fun _ => Mono.name L ((mono_kind L).bind fun _ => Mono.ret)
theorem mono_params (L : LostP T Lost) : ∀ n l, Mono Lost (paramsR T n l) := by
  intro n
  induction n with
  | zero => intro l; exact Mono.none
  | succ n ih => intro l; exact Mono.ask fun _ => Mono.both (Mono.next L ((mono_param L).bind fun _ => ih _)) Mono.ret
theorem mono_paramsM (L : LostP T Lost) (N : Nat) : Mono Lost (paramsM T N) := Mono.ask fun _ => Mono.both Mono.ret ((mono_param L).bind fun _ => mono_params L _ _)
theorem mono_ret (L : LostP T Lost) : Mono Lost (retM T) := Mono.ask fun _ => Mono.both Mono.ret (mono_kind L)
theorem mono_function (L : LostP T Lost) (N : Nat) : Mono Lost (functionM src T N) :=
  Mono.ask fun _ => Mono.want L (Mono.ask fun _ => Mono.name L (Mono.want L ((mono_paramsM L N).bind fun _ => Mono.want L ((mono_ret L).bind fun _ => (mono_block L (mono_st L N N) N).bind fun _ => Mono.ret))))
theorem mono_fns (L : LostP T Lost) (N : Nat) : ∀ n l, Mono Lost (fnsR src T N n l) := by
  intro n
  induction n with
  | zero => intro l; exact Mono.none
  | succ n ih => intro l; exact Mono.ask fun _ => Mono.both ((mono_function L N).bind fun _ => ih _) Mono.ret
end
end Go.Proofs.YtgelggdgbmldiaaDoor
