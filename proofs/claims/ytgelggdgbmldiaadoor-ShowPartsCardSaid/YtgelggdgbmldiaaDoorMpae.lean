/-
  Layer 3: what is shown is parsed as it was: statements, functions (data). Written by an AI agent.
  Layer 3: what is shown is parsed as it was: the whole (data). Written by an AI agent.
  Layer 3: a tree's syntax, and what its nodes stand for; the pieces' bytes are the text; its lines (data). Written by an AI agent.
  Layer 3: a tree of its own, and the tree of its text (data). Written by an AI agent.
-/
import Derived.Lib.Bytealg
import Derived.Lib.ItoaNum
import Derived.Lib.ItoaMem
import Derived.Test.YtgelggdgbmldiaaDoorMcaa
import Derived.Test.YtgelggdgbmldiaaDoorMcab
import Derived.Test.YtgelggdgbmldiaaDoorMcac
import Derived.Test.YtgelggdgbmldiaaDoorMcad
import Derived.Test.YtgelggdgbmldiaaDoorMcae
import Derived.Test.YtgelggdgbmldiaaDoorMcaf
import Derived.Test.YtgelggdgbmldiaaDoorMcbl
import Derived.Test.YtgelggdgbmldiaaDoorMpaa
import Derived.Test.YtgelggdgbmldiaaDoorMpab
import Derived.Test.YtgelggdgbmldiaaDoorMpac
import Derived.Test.YtgelggdgbmldiaaDoorMpad
import Derived.Test.YtgelggdgbmldiaaDoorChecked
import Derived.Laws.OwnMore
import Derived.Laws.AppendOwnNone
import Derived.OwnWalk
import Derived.Lib.AppendZerosOnto
import Derived.Below
import Derived.Stop.Walk2
import Derived.WalkKit
import Derived.WalkLawsBesides
import Derived.WalkSpells
import Derived.Outline
import Derived.BigQuiet
import Derived.Deep.CutBlock
import Derived.Deep.CutRange
import Derived.Deep.DeepCutAuto
import Derived.Deep.RegionHeld3
import Derived.Deep.RegionLaw
import Derived.Deep.RegionWith
import Derived.StillTailTactics
import Derived.RegionTactic
import Derived.Laws.StructEq
import Derived.Lib.Hide
import Derived.Shelf.Abstract
import Derived.Shelf.Lay
import Derived.Ground.NamesProg
import Derived.Shelf.Strings.Prefix
import Derived.Shelf.Small.Strs
import Derived.Shelf.Strings.Count
import Derived.Shelf.Strconv.ErrVarParseInt
import Derived.WalkMore
import Derived.Scope
import Derived.Shelf.Slices.Turned
import Derived.Lib.SlicesS
import Derived.Deep.RegionHeld
import Derived.Deep.LoopGhost
import Derived.Deep.Light
import Derived.Shelf.Strconv.Itoa3
import Derived.Lib.LaidTab
import Derived.Lib.ItoaLen
import Derived.Maps.Own
import Derived.Maps.OwnOps
import Derived.StringKeys
import Derived.Shelf.Strings.OnBuilder
import Derived.Shelf.Strings.BuilderCap
import Derived.Shelf.Strings.BuilderK
import Derived.Shelf.Strconv.AtoiAll
import Derived.Deep.OwnRows
import Derived.Test.YtgelggdgbmldiaaDoorMcag
import Derived.Test.YtgelggdgbmldiaaDoorMcah
import Derived.Test.YtgelggdgbmldiaaDoorMcai
import Derived.Test.YtgelggdgbmldiaaDoorMcaj
import Derived.Test.YtgelggdgbmldiaaDoorMcak
import Derived.Test.YtgelggdgbmldiaaDoorMcal
import Derived.Test.YtgelggdgbmldiaaDoorMcam
import Derived.Test.YtgelggdgbmldiaaDoorMcan
import Derived.Test.YtgelggdgbmldiaaDoorMcao
import Derived.Test.YtgelggdgbmldiaaDoorMcap
import Derived.Test.YtgelggdgbmldiaaDoorMcaq
import Derived.Test.YtgelggdgbmldiaaDoorMcar
import Derived.Test.YtgelggdgbmldiaaDoorMcas
import Derived.Test.YtgelggdgbmldiaaDoorMcat
import Derived.Test.YtgelggdgbmldiaaDoorMcau
import Derived.Test.YtgelggdgbmldiaaDoorMcav
import Derived.Test.YtgelggdgbmldiaaDoorMcaw
import Derived.Test.YtgelggdgbmldiaaDoorMcax
import Derived.Test.YtgelggdgbmldiaaDoorMcay
import Derived.Test.YtgelggdgbmldiaaDoorMcaz
import Derived.Test.YtgelggdgbmldiaaDoorMcba
import Derived.Test.YtgelggdgbmldiaaDoorMcbb
import Derived.Test.YtgelggdgbmldiaaDoorMcbc
import Derived.Test.YtgelggdgbmldiaaDoorMcbd
import Derived.Test.YtgelggdgbmldiaaDoorMcbe
import Derived.Test.YtgelggdgbmldiaaDoorMcbf
import Derived.Test.YtgelggdgbmldiaaDoorMcbg
import Derived.Test.YtgelggdgbmldiaaDoorMcbh
import Derived.Test.YtgelggdgbmldiaaDoorMcbi
import Derived.Test.YtgelggdgbmldiaaDoorMcbj
import Derived.Test.YtgelggdgbmldiaaDoorMcbk
import Derived.Test.YtgelggdgbmldiaaDoorMcbm
import Derived.Test.YtgelggdgbmldiaaDoorMcbn
import Derived.Test.YtgelggdgbmldiaaDoorMcbo
namespace Go.Proofs.YtgelggdgbmldiaaDoor
set_option linter.unusedVariables false
set_option linter.unusedSimpArgs false
section
variable {src : List UInt8} {T : List Tok} {N : List Nd} {D : Int} {l : List (Nat × List UInt8)} {s : PS} {B : Prop}
/-- No parenthesis ahead. -/
def NC (rest : List (Nat × List UInt8)) : Prop := ∃ k x r, rest = (k, x) :: r ∧ ¬ (k = 5 ∧ x = [40])
theorem Fol.nc {lv : Nat} {rest : List (Nat × List UInt8)} (h : Fol lv rest) : NC rest := by
  obtain ⟨k, x, r, e, h⟩ := h
  exact ⟨k, x, r, e, fun ⟨h1, h2⟩ => (h (.inl h1)).2.1 h2⟩
def startX : List (List UInt8) := [[40], [45], [33], [116, 114, 117, 101], [102, 97, 108, 115, 101], [108, 101, 110]]
def First (l : List (Nat × List UInt8)) : Prop := ∃ k x k' x' r, l = (k, x) :: (k', x') :: r ∧ ((k = 5 ∨ k = 4) → x ∈ startX) ∧ (k = 3 → ¬ (k' = 5 ∧ x' = [40]))
theorem first_of {k : Nat} {x : List UInt8} {rest : List (Nat × List UInt8)} (h : NC rest) (h1 : (k = 5 ∨ k = 4) → x ∈ startX) : First ((k, x) :: rest) := by
  obtain ⟨k', x', r, rfl, h2⟩ := h
  exact ⟨k, x, k', x', r, rfl, h1, fun _ => h2⟩
theorem first_of3 {k : Nat} {x : List UInt8} {rest : List (Nat × List UInt8)} (h : rest ≠ []) (hk : k ≠ 3) (h1 : (k = 5 ∨ k = 4) → x ∈ startX) : First ((k, x) :: rest) := by
  obtain ⟨⟨k', x'⟩, r, rfl⟩ := List.exists_cons_of_ne_nil h
  exact ⟨k, x, k', x', r, rfl, h1, fun h => absurd h hk⟩
theorem NC.ne {rest : List (Nat × List UInt8)} (h : NC rest) : rest ≠ [] := by obtain ⟨k, x, r, rfl, _⟩ := h; simp
theorem e_first : ∀ e : Ex, (∃ lv d, WE lv d e) → ∀ rest, NC rest → First (tks (pcE e) ++ rest) := by
  have parF : ∀ (a : List Pc) (b : Bool) (rest : List (Nat × List UInt8)), rest ≠ [] → (b = false → First (tks a ++ rest)) → First (tks (parP b a) ++ rest) := by
    intro a b rest hr h
    cases b with
    | false => exact h rfl
    | true =>
      show First (tks (sgn [40] :: (a ++ [sgn [41]])) ++ rest)
      rw [tks_par]
      exact first_of3 (by simp) (by decide) (fun _ => by decide)
  intro e
  induction e with
  | int n => exact fun _ rest h => first_of h (fun h => by rcases h with h | h <;> cases h)
  | bool b => exact fun _ rest h => first_of h (fun _ => by cases b <;> decide)
  | text s => exact fun _ rest h => first_of h (fun h => by rcases h with h | h <;> cases h)
  | var s => exact fun _ rest h => first_of h (fun h => by rcases h with h | h <;> cases h)
  | index s a ih => exact fun _ rest h => ⟨3, s, 5, [91], _, rfl, fun h => (by rcases h with h | h <;> cases h), fun _ h => by cases h.2⟩
  | len a ih => exact fun _ rest h => ⟨4, _, 5, [40], _, rfl, fun _ => by decide, fun h => by cases h⟩
  | neg a ih => exact fun _ rest h => first_of3 (fun e => h.ne (List.append_eq_nil_iff.1 e).2) (by decide) (fun _ => by decide)
  | not a ih => exact fun _ rest h => first_of3 (fun e => h.ne (List.append_eq_nil_iff.1 e).2) (by decide) (fun _ => by decide)
  | bin x a b iha ihb =>
    rintro ⟨_, _, hx, hw⟩ rest h
    have hs : ∃ lv d, WE lv d a := by
      split at hw
      · exact ⟨_, _, hw.2.1⟩
      · exact ⟨_, _, hw.1⟩
    have e1 : tks (pcE (.bin x a b)) ++ rest = tks (parP (decide (lvX a < lft (lvS x))) (pcE a)) ++ (5, x) :: (tks (parP (decide (lvX b < lvS x + 1)) (pcE b)) ++ rest) := by
      show tks (parP (decide (lvX a < lft (lvS x))) (pcE a) ++ sgn x :: parP (decide (lvX b < lvS x + 1)) (pcE b)) ++ rest = _
      rw [tks_app, List.append_assoc]
      rfl
    rw [e1]
    exact parF _ _ _ (by simp) (fun _ => iha hs _ (sign_fol hx _).nc)
theorem Sx.calls_no {k : Nat} {x : List UInt8} (h : Sx T N D ((k, x) :: l) s) (hk : k ≠ 3) : callsS T s = false := by
  unfold callsS
  rw [h.tok.1, decide_eq_false hk]
  rfl
theorem ended_q (n : Nd) (xs : List Int) {rest : List (Nat × List UInt8)} (hr : rest ≠ []) (h : Sx T N D ((5, [59]) :: rest) s) : PQ B (endedM T n xs) s (fun x s' => x = ((N.length : Nat) : Int) ∧ Sx T (N ++ [⟨n.k, 0, n.n, n.s, xs⟩]) D rest s') := by
  unfold endedM
  exact PQ.mod (node_q n xs (h.want hr))
end
end Go.Proofs.YtgelggdgbmldiaaDoor

namespace Go.Proofs.YtgelggdgbmldiaaDoor
set_option linter.unusedVariables false
set_option linter.unusedSimpArgs false
section
variable {src : List UInt8} {T : List Tok} {N : List Nd} {D : Int} {l : List (Nat × List UInt8)} {s : PS} {B : Prop}
/-- The words that begin statements. -/
theorem word_st {x : List UInt8} (hS : Sx T N D ((4, x) :: l) s) (y : List UInt8) : isS T [y] s = decide (x = y) := by
  rw [hS.isS]
  by_cases h : x = y
  · subst h; simp
  · simp [h]
theorem ex_tok {e : Ex} (hw : ∃ lv d, WE lv d e) {M : Nat} {rest : List (Nat × List UInt8)} (hB : B → WE 0 D e) (hF : Fol 0 rest) (hS : Sx T N D (tks (pcE e) ++ rest) s) : PQ B (exM src T M 0) s (fun y s' => y = ((N.length + kE e : Nat) : Int) ∧ Sx T (N ++ flE e N.length) D rest s') :=
  ((ex_full e hw).1 0 (by omega)) M s N D rest hB hF (by rw [par_no _ (by omega)]; exact hS)
theorem f_semi (r : List (Nat × List UInt8)) : Fol 0 ((5, [59]) :: r) := end_fol (by decide) 0 r

/-! Functions. -/
theorem kind_q {t : Int} {rest : List (Nat × List UInt8)} (ht : 1 ≤ t ∧ t ≤ 4) (hr : rest ≠ []) (hS : Sx T N D ((4, wrd t) :: rest) s) : PQ B (kindM T) s (fun y s' => y = t ∧ Sx T N D rest s') := by
  have h1 : t = 1 ∨ t = 2 ∨ t = 3 ∨ t = 4 := by omega
  unfold kindM
  refine PQ.ask ?_
  rw [hS.isS, if_pos (by rcases h1 with rfl | rfl | rfl | rfl <;> decide)]
  refine PQ.ask ?_
  rw [hS.tok.2]
  refine PQ.mod ?_
  exact PQ.ret ⟨by rcases h1 with rfl | rfl | rfl | rfl <;> decide, hS.next hr⟩
theorem param_q {p : List UInt8 × Int} {rest : List (Nat × List UInt8)} (hp : WP p) (hr : rest ≠ []) (hS : Sx T N D (tks (pcM p) ++ rest) s) : PQ B (paramM T) s (fun y s' => y = p ∧ Sx T N D rest s') := by
  have hS : Sx T N D ((3, p.1) :: (4, wrd p.2) :: rest) s := hS
  obtain ⟨h1, h2⟩ := hS.name (by simp)
  unfold paramM
  refine PQ.ask ?_
  rw [h1]
  refine PQ.mod ?_
  refine PQ.bind (kind_q hp.2 hr h2) (fun _ => Mono.ret) ?_
  rintro y s2 ⟨rfl, h3⟩
  exact PQ.ret ⟨rfl, h3⟩
theorem params_q {rest : List (Nat × List UInt8)} : ∀ n (ps r : List (List UInt8 × Int)) s, (∀ p ∈ ps, WP p) → Sx T N D (tks (pcN ps) ++ (5, [41]) :: rest) s → PQ B (paramsR T n r) s (fun r' s' => r' = r ++ ps ∧ Sx T N D ((5, [41]) :: rest) s') := by
  intro n
  induction n with
  | zero => intro ps r s _ _; exact PQ.none
  | succ n ih =>
    intro ps r s hw hS
    unfold paramsR
    refine PQ.ask ?_
    cases ps with
    | nil =>
      have hS : Sx T N D ((5, [41]) :: rest) s := hS
      rw [hS.isS, if_neg (by decide)]
      exact PQ.ret ⟨by simp, hS⟩
    | cons p ps =>
      have hS : Sx T N D ((5, [44]) :: (tks (pcM p) ++ (tks (pcN ps) ++ (5, [41]) :: rest))) s := by
        have e1 : tks (pcN (p :: ps)) ++ (5, [41]) :: rest = (5, [44]) :: (tks (pcM p) ++ (tks (pcN ps) ++ (5, [41]) :: rest)) := by
          show (5, [44]) :: (tks (pcM p ++ pcN ps) ++ (5, [41]) :: rest) = _
          rw [tks_app, List.append_assoc]
        rw [← e1]
        exact hS
      rw [hS.isS, if_pos (by decide)]
      refine PQ.mod ?_
      refine PQ.bind (param_q (hw p (by simp)) (by simp) (hS.next (by simp))) (fun _ => mono_params erq_lost _ _) ?_
      rintro y s2 ⟨rfl, h3⟩
      refine (ih ps (r ++ [y]) s2 (fun q hq => hw q (by simp [hq])) h3).mono ?_
      rintro r' s3 ⟨rfl, h4⟩
      exact ⟨by simp, h4⟩
/-- A function's tokens, of what its block's statements are. -/
def fnToks (f : Fnc) (X rest : List (Nat × List UInt8)) : List (Nat × List UInt8) := (4, [102, 110]) :: (3, f.s) :: (5, [40]) :: (tks (pcO f.ps) ++ (5, [41]) :: (tks (pcW f.ret) ++ (5, [123]) :: (X ++ (5, [125]) :: rest)))
/-- A function but for its line. -/
def fz (f : Fnc) : Fnc := { f with ln := 0 }
end
end Go.Proofs.YtgelggdgbmldiaaDoor

namespace Go.Proofs.YtgelggdgbmldiaaDoor
set_option linter.unusedVariables false
set_option linter.unusedSimpArgs false

/-! The pieces' bytes. -/
theorem lvX_lvE : ∀ e : Ex, lvX e = lvE e := by intro e; cases e <;> rfl
theorem rend_par (b : Bool) (l : List Pc) : rend (parP b l) = parL b (rend l) := by
  unfold parP parL
  cases b with
  | false => rfl
  | true =>
    show rend (sgn [40] :: (l ++ [sgn [41]])) = 40 :: (rend l ++ [41])
    rw [rend_cons, rend_append]
    rfl
theorem rend_E : ∀ e : Ex, rend (pcE e) = showE e := by
  intro e
  induction e with
  | int n => unfold pcE rend pcB showE; simp
  | bool b => cases b <;> rfl
  | text s => unfold pcE rend pcB showE; simp
  | var s => unfold pcE rend pcB showE; simp
  | index s a ih =>
    show rend (⟨3, s, []⟩ :: sgn [91] :: (pcE a ++ [sgn [93]])) = s ++ 91 :: (showE a ++ [93])
    rw [rend_cons, rend_cons, rend_append, ih]
    simp [pcB, sgn, rend]
  | len a ih =>
    show rend (⟨4, [108, 101, 110], []⟩ :: sgn [40] :: (pcE a ++ [sgn [41]])) = 108 :: 101 :: 110 :: 40 :: (showE a ++ [41])
    rw [rend_cons, rend_cons, rend_append, ih]
    simp [pcB, sgn, rend]
  | neg a ih =>
    show rend (sgn [45] :: parP (decide (lvX a < 5)) (pcE a)) = 45 :: parL (decide (lvE a < 5)) (showE a)
    rw [rend_cons, rend_par, ih, lvX_lvE]
    rfl
  | not a ih =>
    show rend (sgn [33] :: parP (decide (lvX a < 5)) (pcE a)) = 33 :: parL (decide (lvE a < 5)) (showE a)
    rw [rend_cons, rend_par, ih, lvX_lvE]
    rfl
  | bin s a b iha ihb =>
    show rend (parP (decide (lvX a < lft (lvS s))) (pcE a) ++ sgn s :: parP (decide (lvX b < lvS s + 1)) (pcE b)) = parL (decide (lvE a < leftL (lvl s))) (showE a) ++ (s ++ parL (decide (lvE b < lvl s + 1)) (showE b))
    rw [rend_append, rend_cons, rend_par, rend_par, iha, ihb, lvX_lvE, lvX_lvE]
    simp [pcB, sgn]
    rfl
/-- The nodes at a place, but for lines. -/
def FlAt (nd : List Nd) (b : Nat) (l : List Nd) : Prop := ∃ pre post, nd.map uz = pre ++ (l ++ post) ∧ pre.length = b
theorem FlAt.left {nd : List Nd} {b : Nat} {l m : List Nd} (h : FlAt nd b (l ++ m)) : FlAt nd b l := by
  obtain ⟨pre, post, h1, h2⟩ := h
  exact ⟨pre, m ++ post, by rw [h1, List.append_assoc], h2⟩
theorem FlAt.right {nd : List Nd} {b c : Nat} {l m : List Nd} (h : FlAt nd b (l ++ m)) (hc : c = b + l.length) : FlAt nd c m := by
  obtain ⟨pre, post, h1, h2⟩ := h
  exact ⟨pre ++ l, post, by rw [h1]; simp, by rw [List.length_append, h2, hc]⟩
theorem FlAt.at {nd : List Nd} {b : Nat} {n : Nd} (h : FlAt nd b [n]) : At nd ((b : Nat) : Int) n.k n.n n.s n.l := by
  obtain ⟨pre, post, h1, h2⟩ := h
  have h3 : (nd.map uz)[b]? = some n := by
    rw [h1, ← h2, List.getElem?_append_right (Nat.le_refl _), Nat.sub_self]
    rfl
  rw [List.getElem?_map] at h3
  cases hg : nd[b]? with
  | none => rw [hg] at h3; cases h3
  | some q =>
    rw [hg] at h3
    have h4 : uz q = n := Option.some.inj h3
    refine ⟨b, q.ln, rfl, ?_⟩
    rw [hg, ← h4]
    rfl
theorem name_q {s : List UInt8} (h : NameOK s) : qshow s := by have := h.2.2.2.1; show s.length ≤ 1000; omega
theorem text_q {s : List UInt8} (h : TextOK s) : qshow s := by have := h.2; show s.length ≤ 1000; omega
theorem rep_E {nd : List Nd} : ∀ (e : Ex) (b lv : Nat) (d : Int), WE lv d e → FlAt nd b (flE e b) → RepE qshow nd e ((b + kE e : Nat) : Int) := by
  intro e
  induction e with
  | int n => exact fun b _ _ h g => ⟨g.at, h⟩
  | bool t => exact fun b _ _ h g => g.at
  | text s => exact fun b _ _ h g => ⟨g.at, text_q h⟩
  | var s => exact fun b _ _ h g => ⟨g.at, name_q h⟩
  | index s a ih => exact fun b _ d h g => ⟨_, (g.right (c := b + (kE a + 1)) (by rw [flE_len])).at, name_q h.1, ih b _ _ h.2.2 g.left⟩
  | len a ih => exact fun b _ d h g => ⟨_, (g.right (c := b + (kE a + 1)) (by rw [flE_len])).at, ih b _ _ h.2 g.left⟩
  | neg a ih => exact fun b _ d h g => ⟨_, (g.right (c := b + (kE a + 1)) (by rw [flE_len])).at, ih b _ _ h.2 g.left⟩
  | not a ih => exact fun b _ d h g => ⟨_, (g.right (c := b + (kE a + 1)) (by rw [flE_len])).at, ih b _ _ h.2 g.left⟩
  | bin s a c iha ihc =>
    intro b lv d h g
    have g : FlAt nd b (flE a b ++ flE c (b + kE a + 1) ++ [⟨9, 0, 0, s, [((b + kE a : Nat) : Int), ((b + kE a + 1 + kE c : Nat) : Int)]⟩]) := g
    have h2 : (∃ lv d, WE lv d a) ∧ ∃ lv d, WE lv d c := by
      have h3 := h.2
      split at h3
      · exact ⟨⟨_, _, h3.2.1⟩, ⟨_, _, h3.2.2⟩⟩
      · exact ⟨⟨_, _, h3.1⟩, ⟨_, _, h3.2⟩⟩
    obtain ⟨⟨_, _, ha⟩, ⟨_, _, hc⟩⟩ := h2
    refine ⟨_, _, (g.right (c := b + (kE a + 1 + (kE c + 1))) (by rw [List.length_append, flE_len, flE_len])).at, h.1, iha b _ _ ha g.left.left, ?_⟩
    exact ihc (b + kE a + 1) _ _ hc (g.left.right (by rw [flE_len]; omega))
theorem rep_Es {nd : List Nd} : ∀ (l : List Ex) (b : Nat) (d : Int), (∀ e ∈ l, WE 0 d e) → FlAt nd b (flEs l b) → RepEs qshow nd l (rootEs l b)
  | [], _, _, _, _ => trivial
  | e :: l, b, d, h, g => by
    have g : FlAt nd b (flE e b ++ flEs l (b + kE e + 1)) := g
    exact ⟨rep_E e b 0 d (h e (by simp)) g.left, rep_Es l (b + kE e + 1) d (fun q hq => h q (by simp [hq])) (g.right (by rw [flE_len]; omega))⟩
theorem rep_R {nd : List Nd} {d : Int} (r : Rt) (b : Nat) (h : WR d r) (g : FlAt nd b (flR r b)) : RepR qshow nd r ((b + kR r : Nat) : Int) := by
  cases r with
  | ex e => exact rep_E e b 0 d h g
  | input => exact g.at
  | new a => exact ⟨_, (g.right (c := b + (kE a + 1)) (by rw [flE_len])).at, rep_E a b 0 d h g.left⟩
  | call s l => exact ⟨_, (g.right (c := b + kEs l) (by rw [flEs_len])).at, name_q h.1, rep_Es l b d h.2 g.left⟩
mutual
theorem rep_S {nd : List Nd} : ∀ (s : Stm) (b : Nat) (d : Int), WS d s → FlAt nd b (flS s b) → RepS qshow nd s ((b + kS s : Nat) : Int)
  | .lt s r, b, d, h, g => by
    unfold WS at h
    unfold flS at g
    unfold RepS kS
    exact ⟨_, (g.right (c := b + (kR r + 1)) (by rw [flR_len])).at, name_q h.1, rep_R r b h.2 g.left⟩
  | .set s r, b, d, h, g => by
    unfold WS at h
    unfold flS at g
    unfold RepS kS
    exact ⟨_, (g.right (c := b + (kR r + 1)) (by rw [flR_len])).at, name_q h.1, rep_R r b h.2 g.left⟩
  | .put s a c, b, d, h, g => by
    unfold WS at h
    unfold flS at g
    unfold RepS kS
    exact ⟨_, _, (g.right (c := b + (kE a + 1 + (kE c + 1))) (by rw [List.length_append, flE_len, flE_len])).at, name_q h.1, rep_E a b _ _ h.2.2.1 g.left.left, rep_E c (b + kE a + 1) _ _ h.2.2.2 (g.left.right (by rw [flE_len]; omega))⟩
  | .doo s l, b, d, h, g => by
    unfold WS at h
    unfold flS at g
    unfold RepS kS
    exact ⟨_, (g.right (c := b + (kEs l + 1)) (by rw [flR_len]; rfl)).at, rep_R (.call s l) b h g.left⟩
  | .print a, b, d, h, g => by
    unfold WS at h
    unfold flS at g
    unfold RepS kS
    exact ⟨_, (g.right (c := b + (kE a + 1)) (by rw [flE_len])).at, rep_E a b _ _ h g.left⟩
  | .ret0, b, d, h, g => by
    unfold flS at g
    unfold RepS kS
    exact g.at
  | .ret1 a, b, d, h, g => by
    unfold WS at h
    unfold flS at g
    unfold RepS kS
    exact ⟨_, (g.right (c := b + (kE a + 1)) (by rw [flE_len])).at, rep_E a b _ _ h g.left⟩
  | .ifs c a, b, d, h, g => by
    unfold WS at h
    unfold flS at g
    unfold RepS kS
    have g2 := g.left.right (c := b + kE c + 1) (by rw [flE_len]; omega)
    exact ⟨_, _, _, (g.right (c := b + (kE c + 1 + (kB a + 1))) (by rw [List.length_append, List.length_append, flE_len, flB_len]; rfl)).at, rep_E c b _ _ h.1 g.left.left, (g2.right (c := b + kE c + 1 + kB a) (by rw [flB_len])).at, rep_B a (b + kE c + 1) _ h.2.2 g2.left⟩
  | .ifelse c a e, b, d, h, g => by
    unfold WS at h
    unfold flS at g
    unfold RepS kS
    have g2 := g.left.left.right (c := b + kE c + 1) (by rw [flE_len]; omega)
    have g3 := g.left.right (c := b + kE c + 1 + kB a + 1) (by rw [List.length_append, List.length_append, flE_len, flB_len]; show _ = b + (kE c + 1 + (kB a + 1)); omega)
    exact ⟨_, _, _, _, _, (g.right (c := b + (kE c + 1 + (kB a + 1) + (kB e + 1))) (by rw [List.length_append, List.length_append, List.length_append, List.length_append, flE_len, flB_len, flB_len]; rfl)).at, rep_E c b _ _ h.1 g.left.left.left, (g2.right (c := b + kE c + 1 + kB a) (by rw [flB_len])).at, rep_B a (b + kE c + 1) _ h.2.2.1 g2.left, (g3.right (c := b + kE c + 1 + kB a + 1 + kB e) (by rw [flB_len])).at, rep_B e (b + kE c + 1 + kB a + 1) _ h.2.2.2 g3.left⟩
  | .whil c a, b, d, h, g => by
    unfold WS at h
    unfold flS at g
    unfold RepS kS
    have g2 := g.left.right (c := b + kE c + 1) (by rw [flE_len]; omega)
    exact ⟨_, _, _, (g.right (c := b + (kE c + 1 + (kB a + 1))) (by rw [List.length_append, List.length_append, flE_len, flB_len]; rfl)).at, rep_E c b _ _ h.1 g.left.left, (g2.right (c := b + kE c + 1 + kB a) (by rw [flB_len])).at, rep_B a (b + kE c + 1) _ h.2.2 g2.left⟩
theorem rep_B {nd : List Nd} : ∀ (l : Bl) (b : Nat) (d : Int), WB d l → FlAt nd b (flB l b) → RepB qshow nd l (rootB l b)
  | .nil, b, d, h, g => by unfold rootB RepB; trivial
  | .cons s l, b, d, h, g => by
    unfold WB at h
    unfold flB at g
    unfold rootB RepB
    exact ⟨rep_S s b d h.1 g.left, rep_B l (b + kS s + 1) d h.2 (g.right (by rw [flS_len]; omega))⟩
end
theorem sumC_uz : ∀ nd : List Nd, sumC (nd.map uz) = sumC nd
  | [] => rfl
  | n :: l => by show ((uz n).s.length + 60) + sumC (l.map uz) = (n.s.length + 60) + sumC l; rw [sumC_uz l]; rfl
theorem sum_E : ∀ (e : Ex) (b : Nat), sumC (flE e b) = massE e := by
  intro e
  induction e with
  | int n => intro b; rfl
  | bool t => intro b; rfl
  | text s => intro b; rfl
  | var s => intro b; rfl
  | index s a ih => intro b; show sumC (flE a b ++ [_]) = massE a + (s.length + 60); rw [sumC_append, ih]; rfl
  | len a ih => intro b; show sumC (flE a b ++ [_]) = massE a + 60; rw [sumC_append, ih]; rfl
  | neg a ih => intro b; show sumC (flE a b ++ [_]) = massE a + 60; rw [sumC_append, ih]; rfl
  | not a ih => intro b; show sumC (flE a b ++ [_]) = massE a + 60; rw [sumC_append, ih]; rfl
  | bin s a c iha ihc => intro b; show sumC (flE a b ++ flE c _ ++ [_]) = massE a + massE c + (s.length + 60); rw [sumC_append, sumC_append, iha, ihc]; rfl
theorem sum_Es : ∀ (l : List Ex) (b : Nat), sumC (flEs l b) = massEs l
  | [], _ => rfl
  | e :: l, b => by show sumC (flE e b ++ flEs l _) = massE e + massEs l; rw [sumC_append, sum_E, sum_Es l]
theorem sum_R (r : Rt) (b : Nat) : sumC (flR r b) = massR r := by
  cases r with
  | ex e => exact sum_E e b
  | input => rfl
  | new a => show sumC (flE a b ++ [_]) = massE a + 60; rw [sumC_append, sum_E]; rfl
  | call s l => show sumC (flEs l b ++ [_]) = massEs l + (s.length + 60); rw [sumC_append, sum_Es]; rfl
mutual
theorem sum_S : ∀ (s : Stm) (b : Nat), sumC (flS s b) = massS s
  | .lt s r, b => by unfold flS massS; rw [sumC_append, sum_R]; rfl
  | .set s r, b => by unfold flS massS; rw [sumC_append, sum_R]; rfl
  | .put s a c, b => by unfold flS massS; rw [sumC_append, sumC_append, sum_E, sum_E]; rfl
  | .doo s l, b => by unfold flS massS; rw [sumC_append, sum_R]; rfl
  | .print a, b => by unfold flS massS; rw [sumC_append, sum_E]; rfl
  | .ret0, b => by unfold flS massS; rfl
  | .ret1 a, b => by unfold flS massS; rw [sumC_append, sum_E]; rfl
  | .ifs c a, b => by unfold flS massS; rw [sumC_append, sumC_append, sumC_append, sum_E, sum_B]; rfl
  | .ifelse c a e, b => by unfold flS massS; rw [sumC_append, sumC_append, sumC_append, sumC_append, sumC_append, sum_E, sum_B, sum_B]; rfl
  | .whil c a, b => by unfold flS massS; rw [sumC_append, sumC_append, sumC_append, sum_E, sum_B]; rfl
theorem sum_B : ∀ (l : Bl) (b : Nat), sumC (flB l b) = massB l
  | .nil, b => by unfold flB massB; rfl
  | .cons s l, b => by unfold flB massB; rw [sumC_append, sum_S, sum_B]
end
theorem sum_T : ∀ (l : List (Fnc × Bl)) (b : Nat), sumC (flT l b) = massF l
  | [], _ => rfl
  | p :: l, b => by
    show sumC ((flB p.2 b ++ [⟨18, 0, 0, [], rootB p.2 b⟩]) ++ flT l _) = (massB p.2 + 60) + massF l
    rw [sumC_append, sumC_append, sum_B, sum_T l]
    rfl
theorem rep_T : ∀ (l : List (Fnc × Bl)) (nd : List Nd) (b : Nat), (∀ p ∈ l, WF p.1 p.2) → BodyOK l b → FlAt nd b (flT l b) → ∀ p ∈ l, ∃ xs, At nd p.1.body 18 0 [] xs ∧ RepB qshow nd p.2 xs
  | [], _, _, _, _, _, p, hp => by cases hp
  | q :: l, nd, b, h, hb, g, p, hp => by
    have g : FlAt nd b (flB q.2 b ++ [⟨18, 0, 0, [], rootB q.2 b⟩] ++ flT l (b + kB q.2 + 1)) := g
    rcases List.mem_cons.1 hp with rfl | hp
    · exact ⟨_, by rw [hb.1]; exact (g.left.right (c := b + kB p.2) (by rw [flB_len])).at, rep_B p.2 b 1 (h p (by simp)).2.2.2 g.left.left⟩
    · exact rep_T l nd (b + kB q.2 + 1) (fun r hr => h r (by simp [hr])) hb.2 (g.right (by rw [List.length_append, flB_len]; show _ = b + (kB q.2 + 1); omega)) p hp
/-- What a walk over a tree's text wants, and the syntax. -/
theorem rep_of_wt {nd : List Nd} {fs : List Fnc} {ps : List (Fnc × Bl)} (h : WT nd fs ps) : fs = ps.map Prod.fst ∧ (∀ p ∈ ps, FnOK qshow p.1) ∧ (∀ p ∈ ps, ∃ xs, At nd p.1.body 18 0 [] xs ∧ RepB qshow nd p.2 xs) ∧ massF ps = sumC nd := by
  refine ⟨h.fns, fun p hp => ?_, rep_T ps nd 0 h.ok h.bod ⟨[], [], by rw [h.nds]; simp, rfl⟩, by rw [← sumC_uz, h.nds, sum_T]⟩
  obtain ⟨h1, h2, h3, _⟩ := h.ok p hp
  exact ⟨name_q h1, h3, fun q hq => ⟨name_q (h2 q hq).1, by have := (h2 q hq).2; omega, (h2 q hq).2.2⟩⟩
theorem names_wt {nd : List Nd} {fs : List Fnc} {src : List UInt8} (hl : src.length ≤ 600) (hn : (lexL src 0).2 = none) (hres : allP 6100 src = some (.inr (nd, fs))) : ∀ n ∈ nd, qshow n.s := by
  obtain ⟨ps, h⟩ := tree_rep hres (qt_of src hn hl)
  exact h.names

/-! Lines. -/
end Go.Proofs.YtgelggdgbmldiaaDoor

namespace Go.Proofs.YtgelggdgbmldiaaDoor
open Go Go.RowKit Go.Shelf
set_option linter.unusedVariables false
set_option linter.unusedSimpArgs false
set_option maxHeartbeats 16000000 in
theorem rlex_big (s : ByteArray) (hbig : 600 < s.size) (w : World) : Calls Tryd.prog 28 #[.string s] w fun e w' => e = .returned (.tuple #[.slice none 0 0, .int .i64 ((0 : Nat) : Int), .int .i64 ((4 : Nat) : Int)]) ∧ Keeps (fun _ => False) w w' := by
  have hbigI : (600 : Int) < (s.size : Int) := by omega
  have hd : decide ((600 : Int) < (s.size : Int)) = true := decide_eq_true hbigI
  have KR := Lib.hid (Keeps.refl (fun _ => False) w)
  go_enter Tryd.func28, Tryd.ntmps28
  go_wp2
  go_ret3
  exact ⟨rfl, KR.out⟩
/-- A source that is too long. -/
theorem rsrc_big (s : ByteArray) (hs : 600 < s.size) (w : World) : Calls Tryd.prog 16 #[.string s] w fun e w' => ∃ B d B' d', e = .returned (.tuple #[.agg #[.slice B 0 d, .slice B' 0 d'], .int .i64 0, .int .i64 4]) ∧ TreeR 0 w' B B' [] [] ∧ Keeps (fun _ => False) w w' :=
  (rpall_err s w 0 4 (by decide) (fun w1 _ => rlex_big s hs w1)).mono fun e w' ⟨h1, h2⟩ => ⟨none, 0, none, 0, h1, ⟨⟨[], rfl, fun h => absurd h (by decide), fun x hx => by cases hx⟩, ⟨[], rfl, fun h => absurd h (by decide), fun x hx => by cases hx⟩⟩, h2⟩
end Go.Proofs.YtgelggdgbmldiaaDoor
