/-
  Layer 3: what is shown, as pieces, and the tokens of these (data). Written by an AI agent.
  Layer 3: what is shown may stand as tokens (data). Written by an AI agent.
-/
import Derived.Lib.Bytealg
import Derived.Lib.ItoaNum
import Derived.Lib.ItoaMem
import Derived.Test.YtgelggdgbmldiaaDoorMcaa
import Derived.Test.YtgelggdgbmldiaaDoorMcab
import Derived.Test.YtgelggdgbmldiaaDoorMcac
import Derived.Test.YtgelggdgbmldiaaDoorMcad
import Derived.Test.YtgelggdgbmldiaaDoorMcae
import Derived.Test.YtgelggdgbmldiaaDoorMcaf
import Derived.Test.YtgelggdgbmldiaaDoorMpaa
import Derived.Test.YtgelggdgbmldiaaDoorMpab
namespace Go.Proofs.YtgelggdgbmldiaaDoor
set_option linter.unusedVariables false
set_option linter.unusedSimpArgs false
/-- A piece: a token's kind, what it says, and the blanks behind it. -/
structure Pc where
  k : Nat
  x : List UInt8
  b : List UInt8
def pcB (k : Nat) (x : List UInt8) : List UInt8 := if k = 2 then 34 :: (x ++ [34]) else x
def rend (l : List Pc) : List UInt8 := l.flatMap fun p => pcB p.k p.x ++ p.b
theorem rend_append (a b : List Pc) : rend (a ++ b) = rend a ++ rend b := by unfold rend; rw [List.flatMap_append]
theorem rend_cons (p : Pc) (l : List Pc) : rend (p :: l) = pcB p.k p.x ++ p.b ++ rend l := by unfold rend; rw [List.flatMap_cons]
def kx (p : Pc) : Nat × List UInt8 := (p.k, p.x)
def sgn (x : List UInt8) : Pc := ⟨5, x, []⟩
def lvX : Ex → Nat
  | .bin s _ _ => lvS s
  | .neg _ => 5
  | .not _ => 5
  | _ => 6
def parP (b : Bool) (l : List Pc) : List Pc := if b then sgn [40] :: (l ++ [sgn [41]]) else l
def lft (k : Nat) : Nat := if k = 2 then 3 else k
def pcE : Ex → List Pc
  | .int n => [⟨1, Lib.itoa n, []⟩]
  | .bool b => [⟨4, if b then [116, 114, 117, 101] else [102, 97, 108, 115, 101], []⟩]
  | .text s => [⟨2, s, []⟩]
  | .var s => [⟨3, s, []⟩]
  | .index s a => ⟨3, s, []⟩ :: sgn [91] :: (pcE a ++ [sgn [93]])
  | .len a => ⟨4, [108, 101, 110], []⟩ :: sgn [40] :: (pcE a ++ [sgn [41]])
  | .neg a => sgn [45] :: parP (decide (lvX a < 5)) (pcE a)
  | .not a => sgn [33] :: parP (decide (lvX a < 5)) (pcE a)
  | .bin s a b => parP (decide (lvX a < lft (lvS s))) (pcE a) ++ sgn s :: parP (decide (lvX b < lvS s + 1)) (pcE b)
def wrd (t : Int) : List UInt8 := if t = 1 then [105, 110, 116] else if t = 2 then [98, 111, 111, 108] else if t = 3 then [116, 101, 120, 116] else if t = 4 then [108, 105, 115, 116] else []
def pcM (p : List UInt8 × Int) : List Pc := [⟨3, p.1, [32]⟩, ⟨4, wrd p.2, []⟩]
def pcN : List (List UInt8 × Int) → List Pc
  | [] => []
  | p :: l => sgn [44] :: (pcM p ++ pcN l)
def pcO : List (List UInt8 × Int) → List Pc
  | [] => []
  | p :: l => pcM p ++ pcN l
def pcW (t : Int) : List Pc := if t = 0 then [] else [⟨4, wrd t, []⟩]
def TokP (k : Nat) (x : List UInt8) : Prop :=
  (k = 1 ∧ x ≠ [] ∧ (∀ c ∈ x, dig c = true) ∧ numV x ≤ 9223372036854775807 ∧ x.length ≤ 19) ∨ (k = 2 ∧ TextOK x) ∨ (k = 3 ∧ NameOK x) ∨ (k = 4 ∧ x ∈ wordsL) ∨ (k = 5 ∧ (x ∈ twosL ∨ ∃ c ∈ onesL, x = [c]))
def nxOK (k : Nat) (x : List UInt8) : Option UInt8 → Prop
  | none => True
  | some c => (k = 1 → dig c = false) ∧ (k = 3 ∨ k = 4 → nmc c = false) ∧ (k = 5 → (x = [47] → c ≠ 47) ∧ (x = [60] ∨ x = [61] ∨ x = [33] → c ≠ 61))
def hdP : List Pc → Option UInt8 → Option UInt8
  | [], c => c
  | p :: _, _ => (pcB p.k p.x).head?
def LexP : List Pc → Option UInt8 → Prop
  | [], _ => True
  | p :: l, c => TokP p.k p.x ∧ (∀ d ∈ p.b, d = 32 ∨ d = 10) ∧ nxOK p.k p.x (match p.b with | [] => hdP l c | d :: _ => some d) ∧ LexP l c
theorem hdP_append (a b : List Pc) (c : Option UInt8) : hdP (a ++ b) c = hdP a (hdP b c) := by cases a <;> rfl
theorem LexP_append : ∀ (a b : List Pc) (c : Option UInt8), LexP a (hdP b c) → LexP b c → LexP (a ++ b) c
  | [], b, c, _, h => h
  | p :: a, b, c, h, h2 => by
    obtain ⟨h3, h4, h5, h6⟩ := h
    refine ⟨h3, h4, ?_, LexP_append a b c h6 h2⟩
    rw [show (a.append b) = a ++ b from rfl, hdP_append]
    exact h5
theorem dig_range {c : UInt8} (h : dig c = true) : 48 ≤ c.toNat ∧ c.toNat ≤ 57 := by unfold dig at h; simpa using h
theorem ltr_dig {c : UInt8} (h : ltr c = true) : dig c = false := by
  unfold ltr at h
  unfold dig
  simp at h ⊢
  omega
theorem word_ltr {x : List UInt8} (h : x ∈ wordsL) : x ≠ [] ∧ ltr (x.headD 0) = true ∧ (∀ c ∈ x, nmc c = true) ∧ isWord x = true := (by decide : ∀ x ∈ wordsL, x ≠ [] ∧ ltr (x.headD 0) = true ∧ (∀ c ∈ x, nmc c = true) ∧ isWord x = true) x h
theorem two_ok {x : List UInt8} (h : x ∈ twosL) : ∃ c d, x = [c, d] ∧ dig c = false ∧ ltr c = false ∧ c ≠ 34 ∧ blk c = false ∧ c ≠ 47 := by
  have h0 : ∀ x ∈ twosL, (x.length = 2 ∧ dig (x.headD 0) = false ∧ ltr (x.headD 0) = false ∧ (x.headD 0) ≠ 34 ∧ blk (x.headD 0) = false ∧ (x.headD 0) ≠ 47) := by decide
  obtain ⟨h1, h2⟩ := h0 x h
  match x, h1 with
  | [c, d], _ => exact ⟨c, d, rfl, h2⟩
theorem one_ok {c : UInt8} (h : c ∈ onesL) : dig c = false ∧ ltr c = false ∧ c ≠ 34 ∧ blk c = false ∧ onesL.contains c = true := (by decide : ∀ c ∈ onesL, dig c = false ∧ ltr c = false ∧ c ≠ 34 ∧ blk c = false ∧ onesL.contains c = true) c h
theorem isTwo_cons (x : List UInt8) (h : x ∈ twosL) (r : List UInt8) : isTwo (x ++ r) = true := by
  unfold isTwo
  rw [List.any_eq_true]
  refine ⟨x, h, ?_⟩
  simp
theorem not_two {c d : UInt8} {r : List UInt8} (hc : c ∈ onesL) (h : c = 60 ∨ c = 61 ∨ c = 33 → d ≠ 61) : isTwo (c :: d :: r) = false := by
  unfold isTwo
  rw [List.any_eq_false]
  intro t ht
  have h1 : c ≠ 124 ∧ c ≠ 38 := (by decide : ∀ c ∈ onesL, c ≠ 124 ∧ c ≠ 38) c hc
  have h2 : t = [124, 124] ∨ t = [38, 38] ∨ t = [60, 61] ∨ t = [61, 61] ∨ t = [33, 61] := by simpa [twosL] using ht
  rcases h2 with rfl | rfl | rfl | rfl | rfl
  · simp [List.isPrefixOf, h1.1, Ne.symm h1.1]
  · simp [List.isPrefixOf, h1.2, Ne.symm h1.2]
  · simp only [List.isPrefixOf, Bool.and_true, Bool.and_eq_true, beq_iff_eq]
    rintro ⟨rfl, rfl⟩
    exact h (.inl rfl) rfl
  · simp only [List.isPrefixOf, Bool.and_true, Bool.and_eq_true, beq_iff_eq]
    rintro ⟨rfl, rfl⟩
    exact h (.inr (.inl rfl)) rfl
  · simp only [List.isPrefixOf, Bool.and_true, Bool.and_eq_true, beq_iff_eq]
    rintro ⟨rfl, rfl⟩
    exact h (.inr (.inr rfl)) rfl
theorem not_two1 {c : UInt8} : isTwo [c] = false := by
  unfold isTwo
  rw [List.any_eq_false]
  intro t ht
  have : t.length = 2 := (by decide : ∀ t ∈ twosL, t.length = 2) t ht
  intro h
  have := (List.isPrefixOf_iff_prefix.1 h).length_le
  simp at this
  omega
theorem runL_app_stop (p : UInt8 → Bool) (x r : List UInt8) (hx : ∀ c ∈ x, p c = true) (hr : ∀ c, r.head? = some c → p c = false) : runL p (x ++ r) = x.length := by
  rw [runL_append p x r hx]
  cases r with
  | nil => rfl
  | cons c r => rw [runL_cons_false p c r (hr c rfl)]; rfl
theorem take_app (x r : List UInt8) : (x ++ r).take x.length = x := by simp
/-- The first token of a piece and what is behind it. -/
theorem first_pc {k : Nat} {x r : List UInt8} (h : TokP k x) (hr : nxOK k x r.head?) : ∃ c t, pcB k x ++ r = c :: t ∧ blk c = false ∧ isRem (c :: t) = false ∧ firstL (c :: t) = (k, (pcB k x).length, 0) ∧ saidL k (pcB k x) = x := by
  rcases h with ⟨rfl, h1, h2, h3, h4⟩ | ⟨rfl, h1, h2⟩ | ⟨rfl, h1⟩ | ⟨rfl, h1⟩ | ⟨rfl, h1⟩
  · obtain ⟨c, y, rfl⟩ := List.exists_cons_of_ne_nil h1
    have hc := h2 c (by simp)
    have hd := dig_range hc
    refine ⟨c, y ++ r, rfl, ?_, ?_, ?_, rfl⟩
    · unfold blk; simp; omega
    · unfold isRem
      have : c ≠ 47 := fun e => by rw [e] at hd; exact absurd hd (by decide)
      simp [List.isPrefixOf, this, Ne.symm this]
    · have e : runL dig (c :: (y ++ r)) = (c :: y).length := runL_app_stop dig (c :: y) r h2 (fun d hd => by rw [hd] at hr; exact hr.1 rfl)
      rw [firstL_cons, if_pos hc]
      unfold numberL
      rw [e, show (c :: (y ++ r)) = (c :: y) ++ r from rfl, take_app, if_pos ⟨h3, h4⟩]
      rfl
  · refine ⟨34, x ++ [34] ++ r, by show 34 :: (x ++ [34]) ++ r = _; rfl, by decide, by unfold isRem; simp [List.isPrefixOf], ?_, ?_⟩
    · rw [firstL_cons, if_neg (by decide), if_neg (by decide), if_pos rfl]
      have e : runL txc (x ++ [34] ++ r) = x.length := by
        rw [List.append_assoc]
        exact runL_app_stop txc x ([34] ++ r) h1 (fun d hd => by
          have : d = 34 := (Option.some.inj hd).symm
          rw [this]; rfl)
      unfold textL
      rw [e, if_pos (by rw [List.append_assoc, List.getElem?_append_right (Nat.le_refl _), Nat.sub_self]; rfl), if_neg (by omega)]
      show (2, x.length + 2, 0) = (2, (34 :: (x ++ [34])).length, 0)
      rw [List.length_cons, List.length_append]
      rfl
    · show ((34 :: (x ++ [34])).take ((34 :: (x ++ [34])).length - 1)).drop 1 = x
      rw [List.length_cons, List.length_append]
      show ((34 :: (x ++ [34])).take (x.length + 1)).drop 1 = x
      rw [List.take_succ_cons, List.drop_succ_cons, List.drop_zero, take_app]
  · obtain ⟨h1, h2, h3, h4, h5⟩ := h1
    obtain ⟨c, y, rfl⟩ := List.exists_cons_of_ne_nil h1
    have hc : ltr c = true := h2
    have hl : (97 ≤ c.toNat ∧ c.toNat ≤ 122) ∨ (65 ≤ c.toNat ∧ c.toNat ≤ 90) := by unfold ltr at hc; simpa using hc
    refine ⟨c, y ++ r, rfl, ?_, ?_, ?_, rfl⟩
    · unfold blk; simp; omega
    · unfold isRem
      have : c ≠ 47 := fun e => by rw [e] at hl; exact absurd hl (by decide)
      simp [List.isPrefixOf, this, Ne.symm this]
    · have e : runL nmc (c :: (y ++ r)) = (c :: y).length := runL_app_stop nmc (c :: y) r h3 (fun d hd => by rw [hd] at hr; exact hr.2.1 (.inl rfl))
      rw [firstL_cons, if_neg (by rw [ltr_dig hc]; decide), if_pos hc]
      unfold nameL
      rw [e, show (c :: (y ++ r)) = (c :: y) ++ r from rfl, take_app, if_neg (by rw [h5]; decide), if_neg (by omega)]
      rfl
  · obtain ⟨h1, h2, h3, h5⟩ := word_ltr h1
    obtain ⟨c, y, rfl⟩ := List.exists_cons_of_ne_nil h1
    have hc : ltr c = true := h2
    have hl : (97 ≤ c.toNat ∧ c.toNat ≤ 122) ∨ (65 ≤ c.toNat ∧ c.toNat ≤ 90) := by unfold ltr at hc; simpa using hc
    refine ⟨c, y ++ r, rfl, ?_, ?_, ?_, rfl⟩
    · unfold blk; simp; omega
    · unfold isRem
      have : c ≠ 47 := fun e => by rw [e] at hl; exact absurd hl (by decide)
      simp [List.isPrefixOf, this, Ne.symm this]
    · have e : runL nmc (c :: (y ++ r)) = (c :: y).length := runL_app_stop nmc (c :: y) r h3 (fun d hd => by rw [hd] at hr; exact hr.2.1 (.inr rfl))
      rw [firstL_cons, if_neg (by rw [ltr_dig hc]; decide), if_pos hc]
      unfold nameL
      rw [e, show (c :: (y ++ r)) = (c :: y) ++ r from rfl, take_app, if_pos h5]
      rfl
  · rcases h1 with h1 | ⟨c, h1, rfl⟩
    · obtain ⟨c, d, rfl, h2, h3, h4, h5, h6⟩ := two_ok h1
      refine ⟨c, d :: r, rfl, h5, ?_, ?_, rfl⟩
      · unfold isRem
        simp [List.isPrefixOf, h6, Ne.symm h6]
      · rw [firstL_cons, if_neg (by rw [h2]; decide), if_neg (by rw [h3]; decide), if_neg h4]
        unfold signL
        rw [if_pos (show isTwo (c :: d :: r) = true from isTwo_cons [c, d] h1 r)]
        rfl
    · obtain ⟨h2, h3, h4, h5, h6⟩ := one_ok h1
      refine ⟨c, r, rfl, h5, ?_, ?_, rfl⟩
      · unfold isRem
        cases r with
        | nil => simp [List.isPrefixOf]
        | cons d r =>
          simp only [List.isPrefixOf, Bool.and_true]
          by_cases h47 : c = 47
          · have : d ≠ 47 := (hr.2.2 rfl).1 (by rw [h47])
            simp [this, Ne.symm this]
          · simp [h47, Ne.symm h47]
      · have ht : isTwo (c :: r) = false := by
          cases r with
          | nil => exact not_two1
          | cons d r => exact not_two h1 (fun hc => (hr.2.2 rfl).2 (by rcases hc with rfl | rfl | rfl <;> simp))
        rw [firstL_cons, if_neg (by rw [h2]; decide), if_neg (by rw [h3]; decide), if_neg h4]
        unfold signL
        rw [if_neg (by rw [ht]; decide), if_pos (by simpa using h6)]
        rfl
/-- Blanks say nothing. -/
theorem lex_blanks : ∀ (b l : List UInt8) (n p : Nat), (∀ d ∈ b, d = 32 ∨ d = 10) → b.length + l.length ≤ n → ∃ m q, lexF n (b ++ l) p = lexF m l q ∧ l.length ≤ m
  | [], l, n, p, _, h => ⟨n, p, rfl, by simpa using h⟩
  | d :: b, l, 0, p, _, h => absurd h (by simp)
  | d :: b, l, n + 1, p, hb, h => by
    have hd : blk d = true := by
      rcases hb d (by simp) with rfl | rfl <;> decide
    obtain ⟨m, q, h1, h2⟩ := lex_blanks b l n (p + 1) (fun e he => hb e (by simp [he])) (by simp at h; omega)
    refine ⟨m, q, ?_, h2⟩
    rw [List.cons_append]
    conv => lhs; unfold lexF
    rw [if_pos hd]
    exact h1
theorem rend_head (l : List Pc) (h : LexP l none) : (rend l).head? = hdP l none := by
  cases l with
  | nil => rfl
  | cons p l =>
    rw [rend_cons]
    show _ = (pcB p.k p.x).head?
    have hne : pcB p.k p.x ≠ [] := by
      unfold pcB
      split
      · simp
      · rename_i h2
        rcases h.1 with ⟨_, h1, _⟩ | ⟨h1, _⟩ | ⟨_, h1, _⟩ | ⟨_, h1⟩ | ⟨_, h1 | ⟨c, _, h1⟩⟩
        · exact h1
        · exact absurd h1 h2
        · exact h1
        · exact (word_ltr h1).1
        · obtain ⟨c, d, h1, _⟩ := two_ok h1
          rw [h1]; simp
        · rw [h1]; simp
    obtain ⟨c, y, hc⟩ := List.exists_cons_of_ne_nil hne
    rw [hc]
    rfl
/-- Pieces that may stand so are the tokens. -/
theorem lex_pcs : ∀ (l : List Pc) (n p : Nat), LexP l none → (rend l).length ≤ n → ∃ T, lexF n (rend l) p = (T, none) ∧ T.map (fun t => (t.k, t.x)) = l.map kx ++ [(0, [])]
  | [], n, p, _, _ => by
    cases n with
    | zero => exact ⟨_, rfl, rfl⟩
    | succ n => exact ⟨_, rfl, rfl⟩
  | q :: l, n, p, h, hn => by
    obtain ⟨h1, h2, h3, h4⟩ := h
    rw [rend_cons] at hn ⊢
    have hh : (q.b ++ rend l).head? = (match q.b with | [] => hdP l none | d :: _ => some d) := by
      cases q.b with
      | nil => exact rend_head l h4
      | cons d b => rfl
    obtain ⟨c, t, e1, e2, e3, e4, e5⟩ := first_pc (r := q.b ++ rend l) h1 (by rw [hh]; exact h3)
    rw [List.append_assoc] at hn ⊢
    cases n with
    | zero => rw [e1] at hn; exact absurd hn (by simp)
    | succ n =>
      have hl1 : 1 ≤ (pcB q.k q.x).length := by
        have h6 := first_size (c :: t) (by simp) (by rw [e4])
        rw [e4] at h6
        exact h6.1
      rw [List.length_append, List.length_append] at hn
      obtain ⟨m, r, e6, e7⟩ := lex_blanks q.b (rend l) n (p + (pcB q.k q.x).length) h2 (by omega)
      obtain ⟨T, e8, e9⟩ := lex_pcs l m r h4 e7
      rw [e1]
      conv => enter [1, T, 1, 1]; unfold lexF
      rw [if_neg (by rw [e2]; decide), if_neg (by rw [e3]; decide), e4, if_pos rfl]
      show ∃ T, ((⟨q.k, saidL q.k ((c :: t).take (pcB q.k q.x).length), p⟩ : Tok) :: (lexF n ((c :: t).drop (pcB q.k q.x).length) (p + (pcB q.k q.x).length)).1, (lexF n ((c :: t).drop (pcB q.k q.x).length) (p + (pcB q.k q.x).length)).2) = (T, none) ∧ _
      rw [← e1, take_app, e5, List.drop_left, e6, e8]
      exact ⟨_, rfl, by show (q.k, q.x) :: T.map _ = kx q :: (l.map kx ++ [(0, [])]); rw [e9]; rfl⟩
end Go.Proofs.YtgelggdgbmldiaaDoor

namespace Go.Proofs.YtgelggdgbmldiaaDoor
set_option linter.unusedVariables false
set_option linter.unusedSimpArgs false

/-! Numerals. -/
theorem numV_app (l : List UInt8) (c : UInt8) : numV (l ++ [c]) = numV l * 10 + (c.toNat - 48) := by unfold numV; rw [List.foldl_append]; rfl
theorem digitq_toNat (k : Nat) (h : k < 10) : (UInt8.ofNat (48 + k)).toNat = 48 + k := by
  rw [UInt8.toNat_ofNat']
  exact Nat.mod_eq_of_lt (by omega)
open Lib in
theorem dec_num (u : Nat) : numV (decDigits u) = u ∧ (∀ c ∈ decDigits u, dig c = true) ∧ decDigits u ≠ [] := by
  induction u using Nat.strongRecOn with
  | _ u ih =>
    by_cases h : u < 10
    · have ht := digitq_toNat u h
      rw [decDigits, dif_pos h]
      refine ⟨?_, fun c hc => ?_, by simp⟩
      · unfold numV
        show 0 * 10 + ((UInt8.ofNat (48 + u)).toNat - 48) = u
        omega
      · rw [List.mem_singleton.1 hc]
        unfold dig
        simp
        omega
    · obtain ⟨h1, h2, h3⟩ := ih (u / 10) (by omega)
      have ht := digitq_toNat (u % 10) (by omega)
      rw [decDigits, dif_neg h]
      refine ⟨?_, fun c hc => ?_, by simp⟩
      · rw [numV_app, h1]
        omega
      · rcases List.mem_append.1 hc with hc | hc
        · exact h2 c hc
        · rw [List.mem_singleton.1 hc]
          unfold dig
          simp
          omega
open Lib in
theorem dec_len (u : Nat) : (decDigits u).length = 1 ∨ 10 ^ ((decDigits u).length - 1) ≤ u := by
  induction u using Nat.strongRecOn with
  | _ u ih =>
    by_cases h : u < 10
    · left
      rw [decDigits, dif_pos h]
      rfl
    · right
      have h1 := ih (u / 10) (by omega)
      rw [decDigits, dif_neg h, List.length_append]
      show 10 ^ ((decDigits (u / 10)).length + 1 - 1) ≤ u
      rw [Nat.add_sub_cancel]
      rcases h1 with h1 | h1
      · rw [h1]; omega
      · have hp : (decDigits (u / 10)).length = ((decDigits (u / 10)).length - 1) + 1 ∨ (decDigits (u / 10)).length = 0 := by omega
        rcases hp with hp | hp
        · rw [hp, Nat.pow_succ]
          omega
        · rw [hp]
          omega
theorem itoa_tok {n : Int} (h0 : 0 ≤ n) (h1 : n ≤ 9223372036854775807) : TokP 1 (Lib.itoa n) ∧ intV (Lib.itoa n) = n := by
  obtain ⟨u, rfl⟩ : ∃ u : Nat, n = (u : Int) := ⟨n.toNat, by omega⟩
  rw [Lib.itoa_nonneg]
  obtain ⟨h2, h3, h4⟩ := dec_num u
  refine ⟨.inl ⟨rfl, h4, h3, by rw [h2]; omega, ?_⟩, ?_⟩
  · rcases dec_len u with h5 | h5
    · omega
    · rcases Nat.lt_or_ge 19 (Lib.decDigits u).length with h6 | h6
      · exfalso
        have h7 : 10 ^ 19 ≤ 10 ^ ((Lib.decDigits u).length - 1) := Nat.pow_le_pow_right (by decide) (by omega)
        have : (10 : Nat) ^ 19 = 10000000000000000000 := by decide
        omega
      · exact h6
  · unfold intV
    rw [h2, if_pos (by omega)]

/-! Expressions. -/
def fol : Option UInt8 → Prop
  | none => True
  | some c => nmc c = false
theorem fol_nx {k : Nat} {x : List UInt8} (hk : k ≠ 5) : ∀ {c : Option UInt8}, fol c → nxOK k x c
  | none, _ => trivial
  | some c, h => ⟨fun _ => by
      have h : nmc c = false := h
      unfold nmc at h
      simp at h
      exact h.1.2, fun _ => h, fun h => absurd h hk⟩
theorem nx_plain {x : List UInt8} (h : x ≠ [47] ∧ x ≠ [60] ∧ x ≠ [61] ∧ x ≠ [33]) : ∀ {c : Option UInt8}, nxOK 5 x c
  | none => trivial
  | some c => ⟨fun h => (by cases h), fun h => (by rcases h with h | h <;> cases h), fun _ => ⟨fun e => absurd e h.1, fun e => by rcases e with e | e | e; exact absurd e h.2.1; exact absurd e h.2.2.1; exact absurd e h.2.2.2⟩⟩
def beg (o : Option UInt8) : Prop := ∃ d, o = some d ∧ d ≠ 61 ∧ d ≠ 47
theorem nx_beg {x : List UInt8} {c : Option UInt8} (h : beg c) : nxOK 5 x c := by
  obtain ⟨d, rfl, h1, h2⟩ := h
  exact ⟨fun h => (by cases h), fun h => (by rcases h with h | h <;> cases h), fun _ => ⟨fun _ => h2, fun _ => h1⟩⟩
/-- A sign by itself, and what it must not have behind it. -/
theorem lex_sg {x : List UInt8} {l : List Pc} {c : Option UInt8} (h : TokP 5 x) (hn : nxOK 5 x (hdP l c)) (hl : LexP l c) : LexP (sgn x :: l) c := ⟨h, fun d hd => (by cases hd), hn, hl⟩
theorem lex_b {k : Nat} {x : List UInt8} {d : UInt8} {l : List Pc} {c : Option UInt8} (h : TokP k x) (hd : d = 32 ∨ d = 10) (hl : LexP l c) : LexP (⟨k, x, [d]⟩ :: l) c := by
  refine ⟨h, fun e he => by rw [List.mem_singleton.1 he]; exact hd, ?_, hl⟩
  show nxOK k x (some d)
  rcases hd with rfl | rfl
  · exact ⟨fun _ => rfl, fun _ => rfl, fun _ => ⟨fun _ => by decide, fun _ => by decide⟩⟩
  · exact ⟨fun _ => rfl, fun _ => rfl, fun _ => ⟨fun _ => by decide, fun _ => by decide⟩⟩
theorem lex_w {k : Nat} {x : List UInt8} {l : List Pc} {c : Option UInt8} (h : TokP k x) (hk : k ≠ 5) (hf : fol (hdP l c)) (hl : LexP l c) : LexP (⟨k, x, []⟩ :: l) c := ⟨h, fun d hd => (by cases hd), fol_nx hk hf, hl⟩
theorem tok_sg {c : UInt8} (h : c ∈ onesL) : TokP 5 [c] := .inr (.inr (.inr (.inr ⟨rfl, .inr ⟨c, h, rfl⟩⟩)))
theorem tok_word {x : List UInt8} (h : x ∈ wordsL) : TokP 4 x := .inr (.inr (.inr (.inl ⟨rfl, h⟩)))
theorem tok_name {x : List UInt8} (h : NameOK x) : TokP 3 x := .inr (.inr (.inl ⟨rfl, h⟩))
theorem tok_sign {s : List UInt8} (h : s ∈ signs11) : TokP 5 s ∧ ∀ l c, fol (hdP (sgn s :: l) c) := by
  have h0 : ∀ s ∈ signs11, (s ∈ twosL ∨ s = [s.headD 0] ∧ s.headD 0 ∈ onesL) ∧ s ≠ [] ∧ nmc (s.headD 0) = false := by decide
  obtain ⟨h1, h2, h3⟩ := h0 s h
  refine ⟨.inr (.inr (.inr (.inr ⟨rfl, ?_⟩))), fun l c => ?_⟩
  · rcases h1 with h1 | ⟨h1, h4⟩
    · exact .inl h1
    · exact .inr ⟨_, h4, h1⟩
  · obtain ⟨d, y, rfl⟩ := List.exists_cons_of_ne_nil h2
    exact h3
theorem beg_name {s : List UInt8} (h : NameOK s) (b : List UInt8) (l : List Pc) (c : Option UInt8) : beg (hdP (⟨3, s, b⟩ :: l) c) := by
  obtain ⟨h1, h2, _⟩ := h
  obtain ⟨d, y, rfl⟩ := List.exists_cons_of_ne_nil h1
  have hd : ltr d = true := h2
  refine ⟨d, rfl, ?_, ?_⟩
  · rintro rfl; exact absurd hd (by decide)
  · rintro rfl; exact absurd hd (by decide)
theorem par_lex {l : List Pc} (b : Bool) (h : ∀ c, fol c → LexP l c) (h2 : ∀ c, beg (hdP l c)) : (∀ c, fol c → LexP (parP b l) c) ∧ ∀ c, beg (hdP (parP b l) c) := by
  unfold parP
  cases b with
  | false => exact ⟨h, h2⟩
  | true =>
    refine ⟨fun c hc => lex_sg (tok_sg (by decide)) (nx_plain (by decide)) (LexP_append l [sgn [41]] c (h _ (by show nmc 41 = false; decide)) (lex_sg (tok_sg (by decide)) (nx_plain (by decide)) trivial)), fun c => ⟨40, rfl, by decide, by decide⟩⟩
theorem exp_lex : ∀ e : Ex, (∃ lv d, WE lv d e) → (∀ c, fol c → LexP (pcE e) c) ∧ ∀ c, beg (hdP (pcE e) c) := by
  intro e
  induction e with
  | int n =>
    rintro ⟨lv, d, h⟩
    have h1 := (itoa_tok h.1 h.2).1
    refine ⟨fun c hc => lex_w h1 (by decide) hc trivial, fun c => ?_⟩
    rcases h1 with ⟨_, h2, h3, _⟩ | ⟨h2, _⟩ | ⟨h2, _⟩ | ⟨h2, _⟩ | ⟨h2, _⟩
    · obtain ⟨u, y, hu⟩ := List.exists_cons_of_ne_nil h2
      have h4 := dig_range (h3 u (by rw [hu]; simp))
      refine ⟨u, by show (Lib.itoa n).head? = _; rw [hu]; rfl, ?_, ?_⟩
      · rintro rfl; exact absurd h4 (by decide)
      · rintro rfl; exact absurd h4 (by decide)
    all_goals cases h2
  | bool b =>
    rintro ⟨lv, d, h⟩
    cases b with
    | true => exact ⟨fun c hc => lex_w (tok_word (by decide)) (by decide) hc trivial, fun c => ⟨116, rfl, by decide, by decide⟩⟩
    | false => exact ⟨fun c hc => lex_w (tok_word (by decide)) (by decide) hc trivial, fun c => ⟨102, rfl, by decide, by decide⟩⟩
  | text s =>
    rintro ⟨lv, d, h⟩
    exact ⟨fun c hc => lex_w (.inr (.inl ⟨rfl, h⟩)) (by decide) hc trivial, fun c => ⟨34, rfl, by decide, by decide⟩⟩
  | var s =>
    rintro ⟨lv, d, h⟩
    exact ⟨fun c hc => lex_w (tok_name h) (by decide) hc trivial, fun c => beg_name h _ _ c⟩
  | index s a ih =>
    rintro ⟨lv, d, h⟩
    obtain ⟨h1, h2⟩ := ih ⟨_, _, h.2.2⟩
    refine ⟨fun c hc => lex_w (tok_name h.1) (by decide) (by show nmc 91 = false; decide) (lex_sg (tok_sg (by decide)) (nx_plain (by decide)) (LexP_append _ [sgn [93]] c (h1 _ (by show nmc 93 = false; decide)) (lex_sg (tok_sg (by decide)) (nx_plain (by decide)) trivial))), fun c => beg_name h.1 _ _ c⟩
  | len a ih =>
    rintro ⟨lv, d, h⟩
    obtain ⟨h1, h2⟩ := ih ⟨_, _, h.2⟩
    refine ⟨fun c hc => lex_w (tok_word (by decide)) (by decide) (by show nmc 40 = false; decide) (lex_sg (tok_sg (by decide)) (nx_plain (by decide)) (LexP_append _ [sgn [41]] c (h1 _ (by show nmc 41 = false; decide)) (lex_sg (tok_sg (by decide)) (nx_plain (by decide)) trivial))), fun c => ⟨108, rfl, by decide, by decide⟩⟩
  | neg a ih =>
    rintro ⟨lv, d, h⟩
    obtain ⟨h1, h2⟩ := ih ⟨_, _, h.2⟩
    obtain ⟨h3, h4⟩ := par_lex (decide (lvX a < 5)) h1 h2
    exact ⟨fun c hc => lex_sg (tok_sg (by decide)) (nx_beg (h4 c)) (h3 c hc), fun c => ⟨45, rfl, by decide, by decide⟩⟩
  | not a ih =>
    rintro ⟨lv, d, h⟩
    obtain ⟨h1, h2⟩ := ih ⟨_, _, h.2⟩
    obtain ⟨h3, h4⟩ := par_lex (decide (lvX a < 5)) h1 h2
    exact ⟨fun c hc => lex_sg (tok_sg (by decide)) (nx_beg (h4 c)) (h3 c hc), fun c => ⟨33, rfl, by decide, by decide⟩⟩
  | bin s a b iha ihb =>
    rintro ⟨lv, d, h0, h⟩
    have hs : (∃ lv d, WE lv d a) ∧ ∃ lv d, WE lv d b := by
      split at h
      · exact ⟨⟨_, _, h.2.1⟩, ⟨_, _, h.2.2⟩⟩
      · exact ⟨⟨_, _, h.1⟩, ⟨_, _, h.2⟩⟩
    obtain ⟨h1, h2⟩ := iha hs.1
    obtain ⟨h3, h4⟩ := ihb hs.2
    obtain ⟨h5, h6⟩ := par_lex (decide (lvX a < lft (lvS s))) h1 h2
    obtain ⟨h7, h8⟩ := par_lex (decide (lvX b < lvS s + 1)) h3 h4
    obtain ⟨h9, h10⟩ := tok_sign h0
    exact ⟨fun c hc => LexP_append _ _ c (h5 _ (h10 _ _)) (lex_sg h9 (nx_beg (h8 c)) (h7 c hc)), fun c => by
      show beg (hdP (parP _ (pcE a) ++ _) c)
      rw [hdP_append]
      exact h6 _⟩
end Go.Proofs.YtgelggdgbmldiaaDoor
