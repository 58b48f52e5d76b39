/-
  Layer 3: a tree's syntax, and what its nodes stand for; the pieces' bytes are the text; its lines (data). Written by an AI agent.
-/
import Derived.Lib.Bytealg
import Derived.Lib.ItoaNum
import Derived.Lib.ItoaMem
import Derived.Test.YtgelggdgbmldiaaDoorChecked
import Derived.Laws.OwnMore
import Derived.Laws.AppendOwnNone
import Derived.OwnWalk
import Derived.Lib.AppendZerosOnto
import Derived.Below
import Derived.Stop.Walk2
import Derived.WalkKit
import Derived.WalkLawsBesides
import Derived.WalkSpells
import Derived.Outline
import Derived.BigQuiet
import Derived.Deep.CutBlock
import Derived.Deep.CutRange
import Derived.Deep.DeepCutAuto
import Derived.Deep.RegionHeld3
import Derived.Deep.RegionLaw
import Derived.Deep.RegionWith
import Derived.StillTailTactics
import Derived.RegionTactic
import Derived.Laws.StructEq
import Derived.Lib.Hide
import Derived.Shelf.Abstract
import Derived.Shelf.Lay
import Derived.Ground.NamesProg
import Derived.Shelf.Strings.Prefix
import Derived.Shelf.Small.Strs
import Derived.Shelf.Strings.Count
import Derived.Shelf.Strconv.ErrVarParseInt
import Derived.WalkMore
import Derived.Scope
import Derived.Shelf.Slices.Turned
import Derived.Lib.SlicesS
import Derived.Deep.RegionHeld
import Derived.Deep.LoopGhost
import Derived.Deep.Light
import Derived.Shelf.Strconv.Itoa3
import Derived.Lib.LaidTab
import Derived.Lib.ItoaLen
import Derived.Maps.Own
import Derived.Maps.OwnOps
import Derived.StringKeys
import Derived.Shelf.Strings.OnBuilder
import Derived.Shelf.Strings.BuilderCap
import Derived.Shelf.Strings.BuilderK
import Derived.Shelf.Strconv.AtoiAll
import Derived.Deep.OwnRows
import Derived.Test.YtgelggdgbmldiaaDoorMcaa
import Derived.Test.YtgelggdgbmldiaaDoorMcab
import Derived.Test.YtgelggdgbmldiaaDoorMcac
import Derived.Test.YtgelggdgbmldiaaDoorMcad
import Derived.Test.YtgelggdgbmldiaaDoorMcae
import Derived.Test.YtgelggdgbmldiaaDoorMcaf
import Derived.Test.YtgelggdgbmldiaaDoorMcag
import Derived.Test.YtgelggdgbmldiaaDoorMcah
import Derived.Test.YtgelggdgbmldiaaDoorMcai
import Derived.Test.YtgelggdgbmldiaaDoorMcaj
import Derived.Test.YtgelggdgbmldiaaDoorMcak
import Derived.Test.YtgelggdgbmldiaaDoorMcal
import Derived.Test.YtgelggdgbmldiaaDoorMcam
import Derived.Test.YtgelggdgbmldiaaDoorMcan
import Derived.Test.YtgelggdgbmldiaaDoorMcao
import Derived.Test.YtgelggdgbmldiaaDoorMcap
import Derived.Test.YtgelggdgbmldiaaDoorMcaq
import Derived.Test.YtgelggdgbmldiaaDoorMcar
import Derived.Test.YtgelggdgbmldiaaDoorMcas
import Derived.Test.YtgelggdgbmldiaaDoorMcat
import Derived.Test.YtgelggdgbmldiaaDoorMcau
import Derived.Test.YtgelggdgbmldiaaDoorMcav
import Derived.Test.YtgelggdgbmldiaaDoorMcaw
import Derived.Test.YtgelggdgbmldiaaDoorMcax
import Derived.Test.YtgelggdgbmldiaaDoorMcay
import Derived.Test.YtgelggdgbmldiaaDoorMcaz
import Derived.Test.YtgelggdgbmldiaaDoorMcba
import Derived.Test.YtgelggdgbmldiaaDoorMcbb
import Derived.Test.YtgelggdgbmldiaaDoorMcbc
import Derived.Test.YtgelggdgbmldiaaDoorMcbd
import Derived.Test.YtgelggdgbmldiaaDoorMcbe
import Derived.Test.YtgelggdgbmldiaaDoorMcbf
import Derived.Test.YtgelggdgbmldiaaDoorMcbg
import Derived.Test.YtgelggdgbmldiaaDoorMcbh
import Derived.Test.YtgelggdgbmldiaaDoorMcbi
import Derived.Test.YtgelggdgbmldiaaDoorMcbj
import Derived.Test.YtgelggdgbmldiaaDoorMcbk
import Derived.Test.YtgelggdgbmldiaaDoorMcbl
import Derived.Test.YtgelggdgbmldiaaDoorMiaa
import Derived.Test.YtgelggdgbmldiaaDoorMiab
import Derived.Test.YtgelggdgbmldiaaDoorMiac
namespace Go.Proofs.YtgelggdgbmldiaaDoor
set_option linter.unusedVariables false
set_option linter.unusedSimpArgs false

/-! The pieces' bytes. -/
theorem lvX_lvE : ∀ e : Ex, lvX e = lvE e := by intro e; cases e <;> rfl
theorem rend_par (b : Bool) (l : List Pc) : rend (parP b l) = parL b (rend l) := by
  unfold parP parL
  cases b with
  | false => rfl
  | true =>
    show rend (sgn [40] :: (l ++ [sgn [41]])) = 40 :: (rend l ++ [41])
    rw [rend_cons, rend_append]
    rfl
theorem rend_E : ∀ e : Ex, rend (pcE e) = showE e := by
  intro e
  induction e with
  | int n => unfold pcE rend pcB showE; simp
  | bool b => cases b <;> rfl
  | text s => unfold pcE rend pcB showE; simp
  | var s => unfold pcE rend pcB showE; simp
  | index s a ih =>
    show rend (⟨3, s, []⟩ :: sgn [91] :: (pcE a ++ [sgn [93]])) = s ++ 91 :: (showE a ++ [93])
    rw [rend_cons, rend_cons, rend_append, ih]
    simp [pcB, sgn, rend]
  | len a ih =>
    show rend (⟨4, [108, 101, 110], []⟩ :: sgn [40] :: (pcE a ++ [sgn [41]])) = 108 :: 101 :: 110 :: 40 :: (showE a ++ [41])
    rw [rend_cons, rend_cons, rend_append, ih]
    simp [pcB, sgn, rend]
  | neg a ih =>
    show rend (sgn [45] :: parP (decide (lvX a < 5)) (pcE a)) = 45 :: parL (decide (lvE a < 5)) (showE a)
    rw [rend_cons, rend_par, ih, lvX_lvE]
    rfl
  | not a ih =>
    show rend (sgn [33] :: parP (decide (lvX a < 5)) (pcE a)) = 33 :: parL (decide (lvE a < 5)) (showE a)
    rw [rend_cons, rend_par, ih, lvX_lvE]
    rfl
  | bin s a b iha ihb =>
    show rend (parP (decide (lvX a < lft (lvS s))) (pcE a) ++ sgn s :: parP (decide (lvX b < lvS s + 1)) (pcE b)) = parL (decide (lvE a < leftL (lvl s))) (showE a) ++ (s ++ parL (decide (lvE b < lvl s + 1)) (showE b))
    rw [rend_append, rend_cons, rend_par, rend_par, iha, ihb, lvX_lvE, lvX_lvE]
    simp [pcB, sgn]
    rfl
theorem rend_A : ∀ l : List Ex, rend (pcA l) = joinC l := by
  have hC : ∀ (l : List Ex) (e : Ex), showE e ++ rend (pcC l) = joinC (e :: l) := by
    intro l
    induction l with
    | nil => intro e; show showE e ++ [] = showE e; simp
    | cons f l ih =>
      intro e
      show showE e ++ rend (sgn [44] :: (pcE f ++ pcC l)) = showE e ++ 44 :: joinC (f :: l)
      rw [rend_cons, rend_append, rend_E, ih]
      rfl
  intro l
  cases l with
  | nil => rfl
  | cons e l =>
    show rend (pcE e ++ pcC l) = _
    rw [rend_append, rend_E, hC]
theorem rend_R : ∀ r : Rt, rend (pcR r) = showR r
  | .ex e => rend_E e
  | .input => rfl
  | .new a => by
    show rend (⟨4, [110, 101, 119], []⟩ :: sgn [40] :: (pcE a ++ [sgn [41]])) = 110 :: 101 :: 119 :: 40 :: (showE a ++ [41])
    rw [rend_cons, rend_cons, rend_append, rend_E]
    simp [pcB, sgn, rend]
  | .call s l => by
    show rend (⟨3, s, []⟩ :: sgn [40] :: (pcA l ++ [sgn [41]])) = s ++ 40 :: (joinC l ++ [41])
    rw [rend_cons, rend_cons, rend_append, rend_A]
    simp [pcB, sgn, rend]
mutual
theorem rend_S : ∀ s : Stm, rend (pcS s) = showS s
  | .lt s r => by unfold pcS showS; simp only [rend_cons, rend_append, rend_R, rend_nil]; simp [pcB, sgn, endP]
  | .set s r => by unfold pcS showS; simp only [rend_cons, rend_append, rend_R, rend_nil]; simp [pcB, sgn, endP]
  | .put s a b => by unfold pcS showS; simp only [rend_cons, rend_append, rend_E, rend_nil]; simp [pcB, sgn, endP]
  | .doo s l => by unfold pcS showS; simp only [rend_cons, rend_append, rend_R, rend_nil]; simp [pcB, sgn, endP]
  | .print a => by unfold pcS showS; simp only [rend_cons, rend_append, rend_E, rend_nil]; simp [pcB, sgn, endP]
  | .ret0 => by unfold pcS showS; rfl
  | .ret1 a => by unfold pcS showS; simp only [rend_cons, rend_append, rend_E, rend_nil]; simp [pcB, sgn, endP]
  | .ifs c a => by unfold pcS showS; simp only [rend_cons, rend_append, rend_E, rend_L a, rend_nil]; simp [pcB, sgn, opP, clP]
  | .ifelse c a d => by unfold pcS showS; simp only [rend_cons, rend_append, rend_E, rend_L a, rend_L d, rend_nil]; simp [pcB, sgn, opP, clP]
  | .whil c a => by unfold pcS showS; simp only [rend_cons, rend_append, rend_E, rend_L a, rend_nil]; simp [pcB, sgn, opP, clP]
theorem rend_L : ∀ b : Bl, rend (pcL b) = showB b
  | .nil => by unfold pcL showB; rfl
  | .cons s l => by unfold pcL showB; rw [rend_append, rend_S s, rend_L l]
end
theorem wrd_wordL (t : Int) : wrd t = wordL t := rfl
theorem rend_O : ∀ l : List (List UInt8 × Int), rend (pcO l) = joinX (l.map paramL) := by
  have hM : ∀ p, rend (pcM p) = paramL p := by
    intro p
    unfold pcM paramL
    simp only [rend_cons, rend_nil, wrd_wordL]
    simp [pcB]
  have hN : ∀ (l : List (List UInt8 × Int)) p, paramL p ++ rend (pcN l) = joinX ((p :: l).map paramL) := by
    intro l
    induction l with
    | nil => intro p; show paramL p ++ [] = paramL p; simp
    | cons q l ih =>
      intro p
      show paramL p ++ rend (sgn [44] :: (pcM q ++ pcN l)) = paramL p ++ 44 :: joinX ((q :: l).map paramL)
      rw [rend_cons, rend_append, hM, ih]
      rfl
  intro l
  cases l with
  | nil => rfl
  | cons p l =>
    show rend (pcM p ++ pcN l) = _
    rw [rend_append, hM, hN]
theorem rend_W {t : Int} (h : 0 ≤ t ∧ t ≤ 4) : rend (pcW t) = wordL t := by
  have : t = 0 ∨ t = 1 ∨ t = 2 ∨ t = 3 ∨ t = 4 := by omega
  rcases this with rfl | rfl | rfl | rfl | rfl <;> rfl
theorem rend_F {p : Fnc × Bl} (h : 0 ≤ p.1.ret ∧ p.1.ret ≤ 4) : rend (pcF p) = textF p := by
  unfold pcF textF showK
  simp only [rend_cons, rend_append, rend_O, rend_W h, rend_L, rend_nil]
  simp [pcB, sgn, opP, clP]
theorem rend_T : ∀ ps : List (Fnc × Bl), (∀ p ∈ ps, WF p.1 p.2) → rend (pcT ps) = textT ps
  | [], _ => rfl
  | p :: ps, h => by
    show rend (pcF p ++ pcT ps) = textF p ++ textT ps
    rw [rend_append, rend_F (h p (by simp)).2.2.1, rend_T ps fun q hq => h q (by simp [hq])]

/-! What the nodes stand for. -/
/-- The nodes at a place, but for lines. -/
def FlAt (nd : List Nd) (b : Nat) (l : List Nd) : Prop := ∃ pre post, nd.map uz = pre ++ (l ++ post) ∧ pre.length = b
theorem FlAt.left {nd : List Nd} {b : Nat} {l m : List Nd} (h : FlAt nd b (l ++ m)) : FlAt nd b l := by
  obtain ⟨pre, post, h1, h2⟩ := h
  exact ⟨pre, m ++ post, by rw [h1, List.append_assoc], h2⟩
theorem FlAt.right {nd : List Nd} {b c : Nat} {l m : List Nd} (h : FlAt nd b (l ++ m)) (hc : c = b + l.length) : FlAt nd c m := by
  obtain ⟨pre, post, h1, h2⟩ := h
  exact ⟨pre ++ l, post, by rw [h1]; simp, by rw [List.length_append, h2, hc]⟩
theorem FlAt.at {nd : List Nd} {b : Nat} {n : Nd} (h : FlAt nd b [n]) : At nd ((b : Nat) : Int) n.k n.n n.s n.l := by
  obtain ⟨pre, post, h1, h2⟩ := h
  have h3 : (nd.map uz)[b]? = some n := by
    rw [h1, ← h2, List.getElem?_append_right (Nat.le_refl _), Nat.sub_self]
    rfl
  rw [List.getElem?_map] at h3
  cases hg : nd[b]? with
  | none => rw [hg] at h3; cases h3
  | some q =>
    rw [hg] at h3
    have h4 : uz q = n := Option.some.inj h3
    refine ⟨b, q.ln, rfl, ?_⟩
    rw [hg, ← h4]
    rfl
theorem name_q {s : List UInt8} (h : NameOK s) : qshow s := by have := h.2.2.2.1; show s.length ≤ 1000; omega
theorem text_q {s : List UInt8} (h : TextOK s) : qshow s := by have := h.2; show s.length ≤ 1000; omega
theorem rep_E {nd : List Nd} : ∀ (e : Ex) (b lv : Nat) (d : Int), WE lv d e → FlAt nd b (flE e b) → RepE qshow nd e ((b + kE e : Nat) : Int) := by
  intro e
  induction e with
  | int n => exact fun b _ _ h g => ⟨g.at, h⟩
  | bool t => exact fun b _ _ h g => g.at
  | text s => exact fun b _ _ h g => ⟨g.at, text_q h⟩
  | var s => exact fun b _ _ h g => ⟨g.at, name_q h⟩
  | index s a ih => exact fun b _ d h g => ⟨_, (g.right (c := b + (kE a + 1)) (by rw [flE_len])).at, name_q h.1, ih b _ _ h.2.2 g.left⟩
  | len a ih => exact fun b _ d h g => ⟨_, (g.right (c := b + (kE a + 1)) (by rw [flE_len])).at, ih b _ _ h.2 g.left⟩
  | neg a ih => exact fun b _ d h g => ⟨_, (g.right (c := b + (kE a + 1)) (by rw [flE_len])).at, ih b _ _ h.2 g.left⟩
  | not a ih => exact fun b _ d h g => ⟨_, (g.right (c := b + (kE a + 1)) (by rw [flE_len])).at, ih b _ _ h.2 g.left⟩
  | bin s a c iha ihc =>
    intro b lv d h g
    have g : FlAt nd b (flE a b ++ flE c (b + kE a + 1) ++ [⟨9, 0, 0, s, [((b + kE a : Nat) : Int), ((b + kE a + 1 + kE c : Nat) : Int)]⟩]) := g
    have h2 : (∃ lv d, WE lv d a) ∧ ∃ lv d, WE lv d c := by
      have h3 := h.2
      split at h3
      · exact ⟨⟨_, _, h3.2.1⟩, ⟨_, _, h3.2.2⟩⟩
      · exact ⟨⟨_, _, h3.1⟩, ⟨_, _, h3.2⟩⟩
    obtain ⟨⟨_, _, ha⟩, ⟨_, _, hc⟩⟩ := h2
    refine ⟨_, _, (g.right (c := b + (kE a + 1 + (kE c + 1))) (by rw [List.length_append, flE_len, flE_len])).at, h.1, iha b _ _ ha g.left.left, ?_⟩
    exact ihc (b + kE a + 1) _ _ hc (g.left.right (by rw [flE_len]; omega))
theorem rep_Es {nd : List Nd} : ∀ (l : List Ex) (b : Nat) (d : Int), (∀ e ∈ l, WE 0 d e) → FlAt nd b (flEs l b) → RepEs qshow nd l (rootEs l b)
  | [], _, _, _, _ => trivial
  | e :: l, b, d, h, g => by
    have g : FlAt nd b (flE e b ++ flEs l (b + kE e + 1)) := g
    exact ⟨rep_E e b 0 d (h e (by simp)) g.left, rep_Es l (b + kE e + 1) d (fun q hq => h q (by simp [hq])) (g.right (by rw [flE_len]; omega))⟩
theorem rep_R {nd : List Nd} {d : Int} (r : Rt) (b : Nat) (h : WR d r) (g : FlAt nd b (flR r b)) : RepR qshow nd r ((b + kR r : Nat) : Int) := by
  cases r with
  | ex e => exact rep_E e b 0 d h g
  | input => exact g.at
  | new a => exact ⟨_, (g.right (c := b + (kE a + 1)) (by rw [flE_len])).at, rep_E a b 0 d h g.left⟩
  | call s l => exact ⟨_, (g.right (c := b + kEs l) (by rw [flEs_len])).at, name_q h.1, rep_Es l b d h.2 g.left⟩
mutual
theorem rep_S {nd : List Nd} : ∀ (s : Stm) (b : Nat) (d : Int), WS d s → FlAt nd b (flS s b) → RepS qshow nd s ((b + kS s : Nat) : Int)
  | .lt s r, b, d, h, g => by
    unfold WS at h
    unfold flS at g
    unfold RepS kS
    exact ⟨_, (g.right (c := b + (kR r + 1)) (by rw [flR_len])).at, name_q h.1, rep_R r b h.2 g.left⟩
  | .set s r, b, d, h, g => by
    unfold WS at h
    unfold flS at g
    unfold RepS kS
    exact ⟨_, (g.right (c := b + (kR r + 1)) (by rw [flR_len])).at, name_q h.1, rep_R r b h.2 g.left⟩
  | .put s a c, b, d, h, g => by
    unfold WS at h
    unfold flS at g
    unfold RepS kS
    exact ⟨_, _, (g.right (c := b + (kE a + 1 + (kE c + 1))) (by rw [List.length_append, flE_len, flE_len])).at, name_q h.1, rep_E a b _ _ h.2.2.1 g.left.left, rep_E c (b + kE a + 1) _ _ h.2.2.2 (g.left.right (by rw [flE_len]; omega))⟩
  | .doo s l, b, d, h, g => by
    unfold WS at h
    unfold flS at g
    unfold RepS kS
    exact ⟨_, (g.right (c := b + (kEs l + 1)) (by rw [flR_len]; rfl)).at, rep_R (.call s l) b h g.left⟩
  | .print a, b, d, h, g => by
    unfold WS at h
    unfold flS at g
    unfold RepS kS
    exact ⟨_, (g.right (c := b + (kE a + 1)) (by rw [flE_len])).at, rep_E a b _ _ h g.left⟩
  | .ret0, b, d, h, g => by
    unfold flS at g
    unfold RepS kS
    exact g.at
  | .ret1 a, b, d, h, g => by
    unfold WS at h
    unfold flS at g
    unfold RepS kS
    exact ⟨_, (g.right (c := b + (kE a + 1)) (by rw [flE_len])).at, rep_E a b _ _ h g.left⟩
  | .ifs c a, b, d, h, g => by
    unfold WS at h
    unfold flS at g
    unfold RepS kS
    have g2 := g.left.right (c := b + kE c + 1) (by rw [flE_len]; omega)
    exact ⟨_, _, _, (g.right (c := b + (kE c + 1 + (kB a + 1))) (by rw [List.length_append, List.length_append, flE_len, flB_len]; rfl)).at, rep_E c b _ _ h.1 g.left.left, (g2.right (c := b + kE c + 1 + kB a) (by rw [flB_len])).at, rep_B a (b + kE c + 1) _ h.2.2 g2.left⟩
  | .ifelse c a e, b, d, h, g => by
    unfold WS at h
    unfold flS at g
    unfold RepS kS
    have g2 := g.left.left.right (c := b + kE c + 1) (by rw [flE_len]; omega)
    have g3 := g.left.right (c := b + kE c + 1 + kB a + 1) (by rw [List.length_append, List.length_append, flE_len, flB_len]; show _ = b + (kE c + 1 + (kB a + 1)); omega)
    exact ⟨_, _, _, _, _, (g.right (c := b + (kE c + 1 + (kB a + 1) + (kB e + 1))) (by rw [List.length_append, List.length_append, List.length_append, List.length_append, flE_len, flB_len, flB_len]; rfl)).at, rep_E c b _ _ h.1 g.left.left.left, (g2.right (c := b + kE c + 1 + kB a) (by rw [flB_len])).at, rep_B a (b + kE c + 1) _ h.2.2.1 g2.left, (g3.right (c := b + kE c + 1 + kB a + 1 + kB e) (by rw [flB_len])).at, rep_B e (b + kE c + 1 + kB a + 1) _ h.2.2.2 g3.left⟩
  | .whil c a, b, d, h, g => by
    unfold WS at h
    unfold flS at g
    unfold RepS kS
    have g2 := g.left.right (c := b + kE c + 1) (by rw [flE_len]; omega)
    exact ⟨_, _, _, (g.right (c := b + (kE c + 1 + (kB a + 1))) (by rw [List.length_append, List.length_append, flE_len, flB_len]; rfl)).at, rep_E c b _ _ h.1 g.left.left, (g2.right (c := b + kE c + 1 + kB a) (by rw [flB_len])).at, rep_B a (b + kE c + 1) _ h.2.2 g2.left⟩
theorem rep_B {nd : List Nd} : ∀ (l : Bl) (b : Nat) (d : Int), WB d l → FlAt nd b (flB l b) → RepB qshow nd l (rootB l b)
  | .nil, b, d, h, g => by unfold rootB RepB; trivial
  | .cons s l, b, d, h, g => by
    unfold WB at h
    unfold flB at g
    unfold rootB RepB
    exact ⟨rep_S s b d h.1 g.left, rep_B l (b + kS s + 1) d h.2 (g.right (by rw [flS_len]; omega))⟩
end
theorem sumC_uz : ∀ nd : List Nd, sumC (nd.map uz) = sumC nd
  | [] => rfl
  | n :: l => by show ((uz n).s.length + 60) + sumC (l.map uz) = (n.s.length + 60) + sumC l; rw [sumC_uz l]; rfl
theorem sum_E : ∀ (e : Ex) (b : Nat), sumC (flE e b) = massE e := by
  intro e
  induction e with
  | int n => intro b; rfl
  | bool t => intro b; rfl
  | text s => intro b; rfl
  | var s => intro b; rfl
  | index s a ih => intro b; show sumC (flE a b ++ [_]) = massE a + (s.length + 60); rw [sumC_append, ih]; rfl
  | len a ih => intro b; show sumC (flE a b ++ [_]) = massE a + 60; rw [sumC_append, ih]; rfl
  | neg a ih => intro b; show sumC (flE a b ++ [_]) = massE a + 60; rw [sumC_append, ih]; rfl
  | not a ih => intro b; show sumC (flE a b ++ [_]) = massE a + 60; rw [sumC_append, ih]; rfl
  | bin s a c iha ihc => intro b; show sumC (flE a b ++ flE c _ ++ [_]) = massE a + massE c + (s.length + 60); rw [sumC_append, sumC_append, iha, ihc]; rfl
theorem sum_Es : ∀ (l : List Ex) (b : Nat), sumC (flEs l b) = massEs l
  | [], _ => rfl
  | e :: l, b => by show sumC (flE e b ++ flEs l _) = massE e + massEs l; rw [sumC_append, sum_E, sum_Es l]
theorem sum_R (r : Rt) (b : Nat) : sumC (flR r b) = massR r := by
  cases r with
  | ex e => exact sum_E e b
  | input => rfl
  | new a => show sumC (flE a b ++ [_]) = massE a + 60; rw [sumC_append, sum_E]; rfl
  | call s l => show sumC (flEs l b ++ [_]) = massEs l + (s.length + 60); rw [sumC_append, sum_Es]; rfl
mutual
theorem sum_S : ∀ (s : Stm) (b : Nat), sumC (flS s b) = massS s
  | .lt s r, b => by unfold flS massS; rw [sumC_append, sum_R]; rfl
  | .set s r, b => by unfold flS massS; rw [sumC_append, sum_R]; rfl
  | .put s a c, b => by unfold flS massS; rw [sumC_append, sumC_append, sum_E, sum_E]; rfl
  | .doo s l, b => by unfold flS massS; rw [sumC_append, sum_R]; rfl
  | .print a, b => by unfold flS massS; rw [sumC_append, sum_E]; rfl
  | .ret0, b => by unfold flS massS; rfl
  | .ret1 a, b => by unfold flS massS; rw [sumC_append, sum_E]; rfl
  | .ifs c a, b => by unfold flS massS; rw [sumC_append, sumC_append, sumC_append, sum_E, sum_B]; rfl
  | .ifelse c a e, b => by unfold flS massS; rw [sumC_append, sumC_append, sumC_append, sumC_append, sumC_append, sum_E, sum_B, sum_B]; rfl
  | .whil c a, b => by unfold flS massS; rw [sumC_append, sumC_append, sumC_append, sum_E, sum_B]; rfl
theorem sum_B : ∀ (l : Bl) (b : Nat), sumC (flB l b) = massB l
  | .nil, b => by unfold flB massB; rfl
  | .cons s l, b => by unfold flB massB; rw [sumC_append, sum_S, sum_B]
end
theorem sum_T : ∀ (l : List (Fnc × Bl)) (b : Nat), sumC (flT l b) = massF l
  | [], _ => rfl
  | p :: l, b => by
    show sumC ((flB p.2 b ++ [⟨18, 0, 0, [], rootB p.2 b⟩]) ++ flT l _) = (massB p.2 + 60) + massF l
    rw [sumC_append, sumC_append, sum_B, sum_T l]
    rfl
theorem rep_T : ∀ (l : List (Fnc × Bl)) (nd : List Nd) (b : Nat), (∀ p ∈ l, WF p.1 p.2) → BodyOK l b → FlAt nd b (flT l b) → ∀ p ∈ l, ∃ xs, At nd p.1.body 18 0 [] xs ∧ RepB qshow nd p.2 xs
  | [], _, _, _, _, _, p, hp => by cases hp
  | q :: l, nd, b, h, hb, g, p, hp => by
    have g : FlAt nd b (flB q.2 b ++ [⟨18, 0, 0, [], rootB q.2 b⟩] ++ flT l (b + kB q.2 + 1)) := g
    rcases List.mem_cons.1 hp with rfl | hp
    · exact ⟨_, by rw [hb.1]; exact (g.left.right (c := b + kB p.2) (by rw [flB_len])).at, rep_B p.2 b 1 (h p (by simp)).2.2.2 g.left.left⟩
    · exact rep_T l nd (b + kB q.2 + 1) (fun r hr => h r (by simp [hr])) hb.2 (g.right (by rw [List.length_append, flB_len]; show _ = b + (kB q.2 + 1); omega)) p hp
/-- What a walk over a tree's text wants, and the syntax. -/
theorem rep_of_wt {nd : List Nd} {fs : List Fnc} {ps : List (Fnc × Bl)} (h : WT nd fs ps) : fs = ps.map Prod.fst ∧ (∀ p ∈ ps, FnOK qshow p.1) ∧ (∀ p ∈ ps, ∃ xs, At nd p.1.body 18 0 [] xs ∧ RepB qshow nd p.2 xs) ∧ massF ps = sumC nd := by
  refine ⟨h.fns, fun p hp => ?_, rep_T ps nd 0 h.ok h.bod ⟨[], [], by rw [h.nds]; simp, rfl⟩, by rw [← sumC_uz, h.nds, sum_T]⟩
  obtain ⟨h1, h2, h3, _⟩ := h.ok p hp
  exact ⟨name_q h1, h3, fun q hq => ⟨name_q (h2 q hq).1, by have := (h2 q hq).2; omega, (h2 q hq).2.2⟩⟩
theorem names_wt {nd : List Nd} {fs : List Fnc} {src : List UInt8} (hl : src.length ≤ 600) (hn : (lexL src 0).2 = none) (hres : allP 6100 src = some (.inr (nd, fs))) : ∀ n ∈ nd, qshow n.s := by
  obtain ⟨ps, h⟩ := tree_rep hres (qt_of src hn hl)
  exact h.names

/-! Lines. -/
def cntK (k : Int) : Nat := if (10 ≤ k ∧ k ≤ 14) ∨ k = 17 then 1 else if k = 18 then 2 else 0
def cntN : List Nd → Nat
  | [] => 0
  | n :: l => cntK n.k + cntN l
theorem cntN_append (a b : List Nd) : cntN (a ++ b) = cntN a + cntN b := by
  induction a with
  | nil => simp [cntN]
  | cons n a ih => show cntK n.k + cntN (a ++ b) = (cntK n.k + cntN a) + cntN b; rw [ih]; omega
theorem cntN_uz : ∀ nd : List Nd, cntN (nd.map uz) = cntN nd
  | [] => rfl
  | n :: l => by show cntK (uz n).k + cntN (l.map uz) = cntK n.k + cntN l; rw [cntN_uz l]; rfl
def nlP : List Pc → Nat
  | [] => 0
  | p :: l => p.b.count 10 + nlP l
theorem nlP_append (a b : List Pc) : nlP (a ++ b) = nlP a + nlP b := by
  induction a with
  | nil => simp [nlP]
  | cons n a ih => show n.b.count 10 + nlP (a ++ b) = (n.b.count 10 + nlP a) + nlP b; rw [ih]; omega
theorem nlP_cons (p : Pc) (l : List Pc) : nlP (p :: l) = p.b.count 10 + nlP l := rfl
theorem nlP_par (b : Bool) (l : List Pc) : nlP (parP b l) = nlP l := by
  unfold parP
  cases b with
  | false => rfl
  | true => show nlP (sgn [40] :: (l ++ [sgn [41]])) = nlP l; rw [nlP_cons, nlP_append]; show 0 + (nlP l + 0) = _; omega
theorem nl_E : ∀ e : Ex, nlP (pcE e) = 0 ∧ ∀ b, cntN (flE e b) = 0 := by
  intro e
  induction e with
  | int n => exact ⟨rfl, fun b => rfl⟩
  | bool t => exact ⟨rfl, fun b => rfl⟩
  | text s => exact ⟨rfl, fun b => rfl⟩
  | var s => exact ⟨rfl, fun b => rfl⟩
  | index s a ih => exact ⟨by show nlP (⟨3, s, []⟩ :: sgn [91] :: (pcE a ++ [sgn [93]])) = 0; rw [nlP_cons, nlP_cons, nlP_append, ih.1]; rfl, fun b => by show cntN (flE a b ++ [_]) = 0; rw [cntN_append, ih.2]; rfl⟩
  | len a ih => exact ⟨by show nlP (⟨4, [108, 101, 110], []⟩ :: sgn [40] :: (pcE a ++ [sgn [41]])) = 0; rw [nlP_cons, nlP_cons, nlP_append, ih.1]; rfl, fun b => by show cntN (flE a b ++ [_]) = 0; rw [cntN_append, ih.2]; rfl⟩
  | neg a ih => exact ⟨by show nlP (sgn [45] :: parP (decide (lvX a < 5)) (pcE a)) = 0; rw [nlP_cons, nlP_par, ih.1]; rfl, fun b => by show cntN (flE a b ++ [_]) = 0; rw [cntN_append, ih.2]; rfl⟩
  | not a ih => exact ⟨by show nlP (sgn [33] :: parP (decide (lvX a < 5)) (pcE a)) = 0; rw [nlP_cons, nlP_par, ih.1]; rfl, fun b => by show cntN (flE a b ++ [_]) = 0; rw [cntN_append, ih.2]; rfl⟩
  | bin s a c iha ihc => exact ⟨by show nlP (parP (decide (lvX a < lft (lvS s))) (pcE a) ++ sgn s :: parP (decide (lvX c < lvS s + 1)) (pcE c)) = 0; rw [nlP_append, nlP_cons, nlP_par, nlP_par, iha.1, ihc.1]; rfl, fun b => by show cntN (flE a b ++ flE c _ ++ [_]) = 0; rw [cntN_append, cntN_append, iha.2, ihc.2]; rfl⟩
theorem nl_Es : ∀ l : List Ex, nlP (pcA l) = 0 ∧ ∀ b, cntN (flEs l b) = 0 := by
  have hC : ∀ l : List Ex, nlP (pcC l) = 0 ∧ ∀ b, cntN (flEs l b) = 0 := by
    intro l
    induction l with
    | nil => exact ⟨rfl, fun b => rfl⟩
    | cons e l ih => exact ⟨by show nlP (sgn [44] :: (pcE e ++ pcC l)) = 0; rw [nlP_cons, nlP_append, (nl_E e).1, ih.1]; rfl, fun b => by show cntN (flE e b ++ flEs l _) = 0; rw [cntN_append, (nl_E e).2, ih.2]⟩
  intro l
  refine ⟨?_, (hC l).2⟩
  cases l with
  | nil => rfl
  | cons e l => show nlP (pcE e ++ pcC l) = 0; rw [nlP_append, (nl_E e).1, (hC l).1]
theorem nl_R (r : Rt) : nlP (pcR r) = 0 ∧ ∀ b, cntN (flR r b) = 0 := by
  cases r with
  | ex e => exact nl_E e
  | input => exact ⟨rfl, fun b => rfl⟩
  | new a => exact ⟨by show nlP (⟨4, [110, 101, 119], []⟩ :: sgn [40] :: (pcE a ++ [sgn [41]])) = 0; rw [nlP_cons, nlP_cons, nlP_append, (nl_E a).1]; rfl, fun b => by show cntN (flE a b ++ [_]) = 0; rw [cntN_append, (nl_E a).2]; rfl⟩
  | call s l => exact ⟨by show nlP (⟨3, s, []⟩ :: sgn [40] :: (pcA l ++ [sgn [41]])) = 0; rw [nlP_cons, nlP_cons, nlP_append, (nl_Es l).1]; rfl, fun b => by show cntN (flEs l b ++ [_]) = 0; rw [cntN_append, (nl_Es l).2]; rfl⟩
mutual
theorem nl_S : ∀ (s : Stm) (b : Nat), nlP (pcS s) = cntN (flS s b)
  | .lt s r, b => by unfold pcS flS; simp only [nlP_cons, nlP_append, cntN_append, (nl_R r).1, (nl_R r).2]; rfl
  | .set s r, b => by unfold pcS flS; simp only [nlP_cons, nlP_append, cntN_append, (nl_R r).1, (nl_R r).2]; rfl
  | .put s a c, b => by unfold pcS flS; simp only [nlP_cons, nlP_append, cntN_append, (nl_E a).1, (nl_E a).2, (nl_E c).1, (nl_E c).2]; rfl
  | .doo s l, b => by unfold pcS flS; simp only [nlP_cons, nlP_append, cntN_append, (nl_R (.call s l)).1, (nl_R (.call s l)).2]; rfl
  | .print a, b => by unfold pcS flS; simp only [nlP_cons, nlP_append, cntN_append, (nl_E a).1, (nl_E a).2]; rfl
  | .ret0, b => by unfold pcS flS; rfl
  | .ret1 a, b => by unfold pcS flS; simp only [nlP_cons, nlP_append, cntN_append, (nl_E a).1, (nl_E a).2]; rfl
  | .ifs c a, b => by
    have h := nl_L a (b + kE c + 1)
    unfold pcS flS
    simp only [nlP_cons, nlP_append, cntN_append, (nl_E c).1, (nl_E c).2, h]
    show 0 + (0 + (1 + (_ + (1 + 0)))) = 0 + (_ + (2 + 0)) + (0 + 0)
    omega
  | .ifelse c a d, b => by
    have h := nl_L a (b + kE c + 1)
    have h2 := nl_L d (b + kE c + 1 + kB a + 1)
    unfold pcS flS
    simp only [nlP_cons, nlP_append, cntN_append, (nl_E c).1, (nl_E c).2, h, h2]
    show 0 + (0 + (1 + (_ + (1 + (0 + (1 + (_ + (1 + 0)))))))) = 0 + (_ + (2 + 0)) + (_ + (2 + 0)) + (0 + 0)
    omega
  | .whil c a, b => by
    have h := nl_L a (b + kE c + 1)
    unfold pcS flS
    simp only [nlP_cons, nlP_append, cntN_append, (nl_E c).1, (nl_E c).2, h]
    show 0 + (0 + (1 + (_ + (1 + 0)))) = 0 + (_ + (2 + 0)) + (0 + 0)
    omega
theorem nl_L : ∀ (l : Bl) (b : Nat), nlP (pcL l) = cntN (flB l b)
  | .nil, b => by unfold pcL flB; rfl
  | .cons s l, b => by unfold pcL flB; rw [nlP_append, cntN_append, nl_S s b, nl_L l (b + kS s + 1)]
end
theorem nl_T : ∀ (ps : List (Fnc × Bl)) (b : Nat), nlP (pcT ps) = cntN (flT ps b)
  | [], _ => rfl
  | p :: ps, b => by
    have hM : ∀ q : List UInt8 × Int, nlP (pcM q) = 0 := fun q => rfl
    have hN : ∀ l : List (List UInt8 × Int), nlP (pcN l) = 0 := by
      intro l
      induction l with
      | nil => rfl
      | cons q l ih => show nlP (sgn [44] :: (pcM q ++ pcN l)) = 0; rw [nlP_cons, nlP_append, hM, ih]; rfl
    have hO : nlP (pcO p.1.ps) = 0 := by
      cases p.1.ps with
      | nil => rfl
      | cons q l => show nlP (pcM q ++ pcN l) = 0; rw [nlP_append, hM, hN]
    have hW : nlP (pcW p.1.ret) = 0 := by unfold pcW; split <;> rfl
    have h := nl_L p.2 b
    have h2 := nl_T ps (b + kB p.2 + 1)
    show nlP (pcF p ++ pcT ps) = cntN ((flB p.2 b ++ [⟨18, 0, 0, [], rootB p.2 b⟩]) ++ flT ps (b + kB p.2 + 1))
    unfold pcF
    simp only [nlP_cons, nlP_append, cntN_append, hO, hW, h, h2]
    show (0 + (0 + (0 + (0 + (0 + (0 + (1 + (_ + (1 + 0)))))))) + _) = (_ + (2 + 0)) + _
    omega
theorem count_of_all {p : UInt8 → Bool} {x : List UInt8} (hp : p 10 = false) (h : ∀ c ∈ x, p c = true) : x.count 10 = 0 := by
  rw [List.count_eq_zero]
  intro h10
  have := h 10 h10
  rw [hp] at this
  cases this
theorem count_tok {k : Nat} {x : List UInt8} (h : TokP k x) : (pcB k x).count 10 = 0 := by
  rcases h with ⟨rfl, _, h2, _⟩ | ⟨rfl, h1, _⟩ | ⟨rfl, _, _, h1, _⟩ | ⟨rfl, h1⟩ | ⟨rfl, h1 | ⟨c, h1, rfl⟩⟩
  · exact count_of_all (p := dig) (by decide) h2
  · show (34 :: (x ++ [34])).count 10 = 0
    rw [List.count_cons, List.count_append, count_of_all (p := txc) (by decide) h1]
    rfl
  · exact count_of_all (p := nmc) (by decide) h1
  · exact (by decide : ∀ x ∈ wordsL, (pcB 4 x).count 10 = 0) x h1
  · exact (by decide : ∀ x ∈ twosL, (pcB 5 x).count 10 = 0) x h1
  · exact (by decide : ∀ c ∈ onesL, (pcB 5 [c]).count 10 = 0) c h1
theorem count_rend : ∀ (l : List Pc) (c : Option UInt8), LexP l c → (rend l).count 10 = nlP l
  | [], _, _ => rfl
  | p :: l, c, h => by rw [rend_cons, List.count_append, List.count_append, count_tok h.1, count_rend l c h.2.2.2, nlP_cons]; omega
/-- The text of a tree has so many lines. -/
theorem lines_of {nd : List Nd} {fs : List Fnc} {ps : List (Fnc × Bl)} (h : WT nd fs ps) : (textT ps).count 10 = cntN nd := by
  rw [← rend_T ps h.ok, count_rend _ none (t_lex ps h.ok none), nl_T ps 0, ← h.nds, cntN_uz]
end Go.Proofs.YtgelggdgbmldiaaDoor
