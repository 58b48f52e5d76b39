/-
  Layer 3: each expression of a tree, alone (data). Written by an AI agent.
-/
import Derived.Lib.Bytealg
import Derived.Lib.ItoaNum
import Derived.Lib.ItoaMem
import Derived.Test.YtgelggdgbmldiaaDoorChecked
import Derived.Laws.OwnMore
import Derived.Laws.AppendOwnNone
import Derived.OwnWalk
import Derived.Lib.AppendZerosOnto
import Derived.Below
import Derived.Stop.Walk2
import Derived.WalkKit
import Derived.WalkLawsBesides
import Derived.WalkSpells
import Derived.Outline
import Derived.BigQuiet
import Derived.Deep.CutBlock
import Derived.Deep.CutRange
import Derived.Deep.DeepCutAuto
import Derived.Deep.RegionHeld3
import Derived.Deep.RegionLaw
import Derived.Deep.RegionWith
import Derived.StillTailTactics
import Derived.RegionTactic
import Derived.Laws.StructEq
import Derived.Lib.Hide
import Derived.Shelf.Abstract
import Derived.Shelf.Lay
import Derived.Ground.NamesProg
import Derived.Shelf.Strings.Prefix
import Derived.Shelf.Small.Strs
import Derived.Shelf.Strings.Count
import Derived.Shelf.Strconv.ErrVarParseInt
import Derived.WalkMore
import Derived.Scope
import Derived.Shelf.Slices.Turned
import Derived.Lib.SlicesS
import Derived.Deep.RegionHeld
import Derived.Deep.LoopGhost
import Derived.Deep.Light
import Derived.Shelf.Strconv.Itoa3
import Derived.Lib.LaidTab
import Derived.Lib.ItoaLen
import Derived.Maps.Own
import Derived.Maps.OwnOps
import Derived.StringKeys
import Derived.Shelf.Strings.OnBuilder
import Derived.Shelf.Strings.BuilderCap
import Derived.Shelf.Strings.BuilderK
import Derived.Shelf.Strconv.AtoiAll
import Derived.Deep.OwnRows
import Derived.Test.YtgelggdgbmldiaaDoorMcaa
import Derived.Test.YtgelggdgbmldiaaDoorMcab
import Derived.Test.YtgelggdgbmldiaaDoorMcac
import Derived.Test.YtgelggdgbmldiaaDoorMcad
import Derived.Test.YtgelggdgbmldiaaDoorMcae
import Derived.Test.YtgelggdgbmldiaaDoorMcaf
import Derived.Test.YtgelggdgbmldiaaDoorMcag
import Derived.Test.YtgelggdgbmldiaaDoorMcah
import Derived.Test.YtgelggdgbmldiaaDoorMcai
import Derived.Test.YtgelggdgbmldiaaDoorMcaj
import Derived.Test.YtgelggdgbmldiaaDoorMcak
import Derived.Test.YtgelggdgbmldiaaDoorMcal
import Derived.Test.YtgelggdgbmldiaaDoorMcam
import Derived.Test.YtgelggdgbmldiaaDoorMcan
import Derived.Test.YtgelggdgbmldiaaDoorMcao
import Derived.Test.YtgelggdgbmldiaaDoorMcap
import Derived.Test.YtgelggdgbmldiaaDoorMcaq
import Derived.Test.YtgelggdgbmldiaaDoorMcar
import Derived.Test.YtgelggdgbmldiaaDoorMcas
import Derived.Test.YtgelggdgbmldiaaDoorMcat
import Derived.Test.YtgelggdgbmldiaaDoorMcau
import Derived.Test.YtgelggdgbmldiaaDoorMcav
import Derived.Test.YtgelggdgbmldiaaDoorMcaw
import Derived.Test.YtgelggdgbmldiaaDoorMcax
import Derived.Test.YtgelggdgbmldiaaDoorMcay
import Derived.Test.YtgelggdgbmldiaaDoorMcaz
import Derived.Test.YtgelggdgbmldiaaDoorMcba
import Derived.Test.YtgelggdgbmldiaaDoorMcbb
import Derived.Test.YtgelggdgbmldiaaDoorMcbc
import Derived.Test.YtgelggdgbmldiaaDoorMcbd
import Derived.Test.YtgelggdgbmldiaaDoorMcbe
import Derived.Test.YtgelggdgbmldiaaDoorMcbf
import Derived.Test.YtgelggdgbmldiaaDoorMcbg
import Derived.Test.YtgelggdgbmldiaaDoorMcbh
import Derived.Test.YtgelggdgbmldiaaDoorMcbi
import Derived.Test.YtgelggdgbmldiaaDoorMcbj
import Derived.Test.YtgelggdgbmldiaaDoorMcbk
import Derived.Test.YtgelggdgbmldiaaDoorMcbl
import Derived.Test.YtgelggdgbmldiaaDoorMpaa
import Derived.Test.YtgelggdgbmldiaaDoorMpab
import Derived.Test.YtgelggdgbmldiaaDoorMpac
import Derived.Test.YtgelggdgbmldiaaDoorMpad
import Derived.Test.YtgelggdgbmldiaaDoorMpae
namespace Go.Proofs.YtgelggdgbmldiaaDoor
set_option linter.unusedVariables false
set_option linter.unusedSimpArgs false
/-- What an expression's own node says. -/
def rkE : Ex → Int
  | .int _ => 1
  | .bool _ => 2
  | .text _ => 3
  | .var _ => 4
  | .index _ _ => 5
  | .len _ => 6
  | .neg _ => 7
  | .not _ => 8
  | .bin _ _ _ => 9
def rnE : Ex → Int
  | .int n => n
  | .bool b => if b then 1 else 0
  | _ => 0
def rsE : Ex → List UInt8
  | .text s => s
  | .var s => s
  | .index s _ => s
  | .bin s _ _ => s
  | _ => []
theorem root_at {Q : List UInt8 → Prop} {nd : List Nd} (e : Ex) (i : Int) (h : RepE Q nd e i) : ∃ l, At nd i (rkE e) (rnE e) (rsE e) l := by
  cases e with
  | int n => exact ⟨_, h.1⟩
  | bool b => exact ⟨_, h⟩
  | text s => exact ⟨_, h.1⟩
  | var s => exact ⟨_, h.1⟩
  | index s a => obtain ⟨x, h1, _⟩ := h; exact ⟨_, h1⟩
  | len a => obtain ⟨x, h1, _⟩ := h; exact ⟨_, h1⟩
  | neg a => obtain ⟨x, h1, _⟩ := h; exact ⟨_, h1⟩
  | not a => obtain ⟨x, h1, _⟩ := h; exact ⟨_, h1⟩
  | bin s a b => obtain ⟨x, y, h1, _⟩ := h; exact ⟨_, h1⟩
theorem FlAt.mass {nd : List Nd} {b : Nat} {l : List Nd} (h : FlAt nd b l) : sumC l ≤ sumC nd := by
  obtain ⟨pre, post, h1, _⟩ := h
  have h2 := congrArg sumC h1
  rw [sumC_uz, sumC_append, sumC_append] at h2
  omega
/-- Each node of a range that is an expression's. -/
def EvR (nd : List Nd) (lo hi : Nat) : Prop := ∀ j, lo ≤ j → j < hi → ∀ k n s xs, At nd ((j : Nat) : Int) k n s xs → k ≤ 9 → ∃ e, WE 0 1 e ∧ RepE qshow nd e ((j : Nat) : Int) ∧ massE e ≤ sumC nd
theorem EvR.cat {nd : List Nd} {lo mid hi : Nat} (h : EvR nd lo mid) (g : EvR nd mid hi) : EvR nd lo hi := fun j h1 h2 => by
  rcases Nat.lt_or_ge j mid with h3 | h3
  · exact h j h1 h3
  · exact g j h3 h2
theorem EvR.none {nd : List Nd} {lo : Nat} : EvR nd lo lo := fun j h1 h2 => by omega
theorem EvR.one {nd : List Nd} {b : Nat} {n : Nd} (h : FlAt nd b [n]) (hk : 9 < n.k) : EvR nd b (b + 1) := fun j h1 h2 k n' s xs ha h9 => by
  have : j = b := by omega
  subst this
  have := (ha.inj h.at).1
  omega
theorem ev_E {nd : List Nd} : ∀ (e : Ex) (b lv : Nat) (d : Int), 1 ≤ d → WE lv d e → FlAt nd b (flE e b) → EvR nd b (b + kE e + 1) := by
  have root : ∀ (e : Ex) (b lv : Nat) (d : Int), 1 ≤ d → WE lv d e → FlAt nd b (flE e b) → EvR nd (b + kE e) (b + kE e + 1) := by
    intro e b lv d hd h g j h1 h2 k n s xs ha h9
    have : j = b + kE e := by omega
    subst this
    exact ⟨e, WE.mono e 0 lv 1 d (Nat.zero_le _) hd h, rep_E e b lv d h g, by have := g.mass; rw [sum_E] at this; exact this⟩
  intro e
  induction e with
  | int n => exact fun b lv d hd h g => root _ b lv d hd h g
  | bool t => exact fun b lv d hd h g => root _ b lv d hd h g
  | text s => exact fun b lv d hd h g => root _ b lv d hd h g
  | var s => exact fun b lv d hd h g => root _ b lv d hd h g
  | index s a ih => exact fun b lv d hd h g => EvR.cat (ih b 0 (d + 1) (by omega) h.2.2 g.left) (root _ b lv d hd h g)
  | len a ih => exact fun b lv d hd h g => EvR.cat (ih b 0 (d + 1) (by omega) h.2 g.left) (root _ b lv d hd h g)
  | neg a ih => exact fun b lv d hd h g => EvR.cat (ih b 5 (d + 1) (by omega) h.2 g.left) (root _ b lv d hd h g)
  | not a ih => exact fun b lv d hd h g => EvR.cat (ih b 5 (d + 1) (by omega) h.2 g.left) (root _ b lv d hd h g)
  | bin s a c iha ihc =>
    intro b lv d hd h g
    have h2 : (∃ lv d, 1 ≤ d ∧ WE lv d a) ∧ ∃ lv d, 1 ≤ d ∧ WE lv d c := by
      have h3 := h.2
      split at h3
      · exact ⟨⟨_, _, by omega, h3.2.1⟩, ⟨_, _, by omega, h3.2.2⟩⟩
      · exact ⟨⟨_, _, hd, h3.1⟩, ⟨_, _, hd, h3.2⟩⟩
    obtain ⟨⟨_, _, hda, ha⟩, ⟨_, _, hdc, hc⟩⟩ := h2
    have g0 : FlAt nd b (flE a b ++ flE c (b + kE a + 1) ++ [⟨9, 0, 0, s, [((b + kE a : Nat) : Int), ((b + kE a + 1 + kE c : Nat) : Int)]⟩]) := g
    have r := root _ b lv d hd h g
    have e1 : b + kE (.bin s a c) = b + kE a + 1 + kE c + 1 := by show b + (kE a + 1 + (kE c + 1)) = _; omega
    rw [e1] at r ⊢
    exact EvR.cat (iha b _ _ hda ha g0.left.left) (EvR.cat (ihc (b + kE a + 1) _ _ hdc hc (g0.left.right (by rw [flE_len]; omega))) r)
theorem ev_Es {nd : List Nd} : ∀ (l : List Ex) (b : Nat) (d : Int), 1 ≤ d → (∀ e ∈ l, WE 0 d e) → FlAt nd b (flEs l b) → EvR nd b (b + kEs l)
  | [], b, _, _, _, _ => EvR.none
  | e :: l, b, d, hd, h, g => by
    have g : FlAt nd b (flE e b ++ flEs l (b + kE e + 1)) := g
    have r := ev_Es l (b + kE e + 1) d hd (fun q hq => h q (by simp [hq])) (g.right (by rw [flE_len]; omega))
    have e1 : b + kEs (e :: l) = b + kE e + 1 + kEs l := by show b + (kE e + 1 + kEs l) = _; omega
    rw [e1]
    exact EvR.cat (ev_E e b 0 d hd (h e (by simp)) g.left) r
theorem ev_R {nd : List Nd} {d : Int} (hd : 1 ≤ d) (r : Rt) (b : Nat) (h : WR d r) (g : FlAt nd b (flR r b)) : EvR nd b (b + kR r + 1) := by
  cases r with
  | ex e => exact ev_E e b 0 d hd h g
  | input => exact EvR.one g (show (9 : Int) < 19 by decide)
  | new a => exact EvR.cat (ev_E a b 0 d hd h g.left) (EvR.one (g.right (c := b + (kE a + 1)) (by rw [flE_len])) (show (9 : Int) < 20 by decide))
  | call s l => exact EvR.cat (ev_Es l b d hd h.2 g.left) (EvR.one (g.right (c := b + kEs l) (by rw [flEs_len])) (show (9 : Int) < 21 by decide))
mutual
theorem ev_S {nd : List Nd} : ∀ (s : Stm) (b : Nat) (d : Int), 1 ≤ d → WS d s → FlAt nd b (flS s b) → EvR nd b (b + kS s + 1)
  | .lt s r, b, d, hd, h, g => by
    unfold WS at h
    unfold flS at g
    unfold kS
    exact EvR.cat (ev_R hd r b h.2 g.left) (EvR.one (g.right (c := b + (kR r + 1)) (by rw [flR_len])) (show (9 : Int) < 10 by decide))
  | .set s r, b, d, hd, h, g => by
    unfold WS at h
    unfold flS at g
    unfold kS
    exact EvR.cat (ev_R hd r b h.2 g.left) (EvR.one (g.right (c := b + (kR r + 1)) (by rw [flR_len])) (show (9 : Int) < 11 by decide))
  | .put s a c, b, d, hd, h, g => by
    unfold WS at h
    unfold flS at g
    unfold kS
    have r : EvR nd (b + kE a + 1 + kE c + 1) (b + kE a + 1 + kE c + 1 + 1) := EvR.one (g.right (c := b + kE a + 1 + kE c + 1) (by rw [List.length_append, flE_len, flE_len]; omega)) (show (9 : Int) < 12 by decide)
    rw [show b + (kE a + 1 + (kE c + 1)) + 1 = b + kE a + 1 + kE c + 1 + 1 by omega]
    exact EvR.cat (ev_E a b _ _ (by omega) h.2.2.1 g.left.left) (EvR.cat (ev_E c (b + kE a + 1) _ _ hd h.2.2.2 (g.left.right (by rw [flE_len]; omega))) r)
  | .doo s l, b, d, hd, h, g => by
    unfold WS at h
    unfold flS at g
    unfold kS
    exact EvR.cat (ev_R hd (.call s l) b h g.left) (EvR.one (g.right (c := b + (kEs l + 1)) (by rw [flR_len]; rfl)) (show (9 : Int) < 13 by decide))
  | .print a, b, d, hd, h, g => by
    unfold WS at h
    unfold flS at g
    unfold kS
    exact EvR.cat (ev_E a b _ _ hd h g.left) (EvR.one (g.right (c := b + (kE a + 1)) (by rw [flE_len])) (show (9 : Int) < 14 by decide))
  | .ret0, b, d, hd, h, g => by
    unfold flS at g
    unfold kS
    exact EvR.one g (show (9 : Int) < 17 by decide)
  | .ret1 a, b, d, hd, h, g => by
    unfold WS at h
    unfold flS at g
    unfold kS
    exact EvR.cat (ev_E a b _ _ hd h g.left) (EvR.one (g.right (c := b + (kE a + 1)) (by rw [flE_len])) (show (9 : Int) < 17 by decide))
  | .ifs c a, b, d, hd, h, g => by
    unfold WS at h
    unfold flS at g
    unfold kS
    have g2 := g.left.right (c := b + kE c + 1) (by rw [flE_len]; omega)
    have r1 := EvR.one (g2.right (c := b + kE c + 1 + kB a) (by rw [flB_len])) (show (9 : Int) < 18 by decide)
    have r2 := EvR.one (g.right (c := b + kE c + 1 + kB a + 1) (by rw [List.length_append, List.length_append, flE_len, flB_len]; show _ = b + (kE c + 1 + (kB a + 1)); omega)) (show (9 : Int) < 15 by decide)
    rw [show b + (kE c + 1 + (kB a + 1)) + 1 = b + kE c + 1 + kB a + 1 + 1 by omega]
    exact EvR.cat (ev_E c b _ _ hd h.1 g.left.left) (EvR.cat (ev_B a (b + kE c + 1) _ (by omega) h.2.2 g2.left) (EvR.cat r1 r2))
  | .ifelse c a e, b, d, hd, h, g => by
    unfold WS at h
    unfold flS at g
    unfold kS
    have g2 := g.left.left.right (c := b + kE c + 1) (by rw [flE_len]; omega)
    have g3 := g.left.right (c := b + kE c + 1 + kB a + 1) (by rw [List.length_append, List.length_append, flE_len, flB_len]; show _ = b + (kE c + 1 + (kB a + 1)); omega)
    have r1 := EvR.one (g2.right (c := b + kE c + 1 + kB a) (by rw [flB_len])) (show (9 : Int) < 18 by decide)
    have r2 := EvR.one (g3.right (c := b + kE c + 1 + kB a + 1 + kB e) (by rw [flB_len])) (show (9 : Int) < 18 by decide)
    have r3 := EvR.one (g.right (c := b + kE c + 1 + kB a + 1 + kB e + 1) (by rw [List.length_append, List.length_append, List.length_append, List.length_append, flE_len, flB_len, flB_len]; show _ = b + (kE c + 1 + (kB a + 1) + (kB e + 1)); omega)) (show (9 : Int) < 15 by decide)
    rw [show b + (kE c + 1 + (kB a + 1) + (kB e + 1)) + 1 = b + kE c + 1 + kB a + 1 + kB e + 1 + 1 by omega]
    exact EvR.cat (ev_E c b _ _ hd h.1 g.left.left.left) (EvR.cat (ev_B a (b + kE c + 1) _ (by omega) h.2.2.1 g2.left) (EvR.cat r1 (EvR.cat (ev_B e (b + kE c + 1 + kB a + 1) _ (by omega) h.2.2.2 g3.left) (EvR.cat r2 r3))))
  | .whil c a, b, d, hd, h, g => by
    unfold WS at h
    unfold flS at g
    unfold kS
    have g2 := g.left.right (c := b + kE c + 1) (by rw [flE_len]; omega)
    have r1 := EvR.one (g2.right (c := b + kE c + 1 + kB a) (by rw [flB_len])) (show (9 : Int) < 18 by decide)
    have r2 := EvR.one (g.right (c := b + kE c + 1 + kB a + 1) (by rw [List.length_append, List.length_append, flE_len, flB_len]; show _ = b + (kE c + 1 + (kB a + 1)); omega)) (show (9 : Int) < 16 by decide)
    rw [show b + (kE c + 1 + (kB a + 1)) + 1 = b + kE c + 1 + kB a + 1 + 1 by omega]
    exact EvR.cat (ev_E c b _ _ hd h.1 g.left.left) (EvR.cat (ev_B a (b + kE c + 1) _ (by omega) h.2.2 g2.left) (EvR.cat r1 r2))
theorem ev_B {nd : List Nd} : ∀ (l : Bl) (b : Nat) (d : Int), 1 ≤ d → WB d l → FlAt nd b (flB l b) → EvR nd b (b + kB l)
  | .nil, b, d, hd, h, g => by unfold kB; exact EvR.none
  | .cons s l, b, d, hd, h, g => by
    unfold WB at h
    unfold flB at g
    unfold kB
    rw [show b + (kS s + 1 + kB l) = b + kS s + 1 + kB l by omega]
    exact EvR.cat (ev_S s b d hd h.1 g.left) (ev_B l (b + kS s + 1) d hd h.2 (g.right (by rw [flS_len]; omega)))
end
theorem ev_T : ∀ (l : List (Fnc × Bl)) (nd : List Nd) (b : Nat), (∀ p ∈ l, WF p.1 p.2) → FlAt nd b (flT l b) → EvR nd b (b + kT l)
  | [], nd, b, _, _ => EvR.none
  | q :: l, nd, b, h, g => by
    have g : FlAt nd b (flB q.2 b ++ [⟨18, 0, 0, [], rootB q.2 b⟩] ++ flT l (b + kB q.2 + 1)) := g
    have r1 := EvR.one (g.left.right (c := b + kB q.2) (by rw [flB_len])) (show (9 : Int) < 18 by decide)
    have r2 := ev_T l nd (b + kB q.2 + 1) (fun r hr => h r (by simp [hr])) (g.right (by rw [List.length_append, flB_len]; show _ = b + (kB q.2 + 1); omega))
    rw [show b + kT (q :: l) = b + kB q.2 + 1 + kT l by show b + (kB q.2 + 1 + kT l) = _; omega]
    exact EvR.cat (ev_B q.2 b 1 (by decide) (h q (by simp)).2.2.2 g.left.left) (EvR.cat r1 r2)
/-- Each node of a tree that is an expression's. -/
theorem every_wt {nd : List Nd} {fs : List Fnc} {ps : List (Fnc × Bl)} (h : WT nd fs ps) (j : Nat) (hj : j < nd.length) (hk : (nd[j]).k ≤ 9) : ∃ e, WE 0 1 e ∧ RepE qshow nd e ((j : Nat) : Int) ∧ massE e ≤ sumC nd := by
  have g : FlAt nd 0 (flT ps 0) := ⟨[], [], by rw [h.nds]; simp, rfl⟩
  have hl : kT ps = nd.length := by rw [← flT_len ps 0, ← h.nds, List.length_map]
  exact ev_T ps nd 0 h.ok g j (Nat.zero_le _) (by omega) (nd[j]).k (nd[j]).n (nd[j]).s (nd[j]).l ⟨j, (nd[j]).ln, rfl, by rw [List.getElem?_eq_getElem hj]⟩ hk
section
variable {src : List UInt8} {T : List Tok} {N : List Nd} {D : Int} {l : List (Nat × List UInt8)} {s : PS} {B : Prop}
/-- Any expression in parentheses. -/
theorem par_any {e : Ex} (hw : ∃ lv d, WE lv d e) : ∀ (d lv : Nat), lv + d = 5 → ∀ n s N D rest, (B → D < 16 ∧ WE 0 (D + 1) e) → Fol lv rest → Sx T N D ((5, [40]) :: (tks (pcE e) ++ (5, [41]) :: rest)) s → PQ B (exM src T n lv) s (fun x s' => x = ((N.length + kE e : Nat) : Int) ∧ Sx T (N ++ flE e N.length) D rest s') := by
  intro d
  induction d with
  | zero =>
    intro lv hlv n s N D rest hB hF hS
    have : lv = 5 := by omega
    subst this
    cases n with
    | zero => exact PQ.none
    | succ n =>
      unfold exM
      rw [if_pos rfl]
      unfold factorM
      refine PQ.ask ?_
      refine PQ.ask ?_
      refine PQ.ask ?_
      rw [hS.isS, if_neg (by decide)]
      refine PQ.ask ?_
      rw [hS.isS, if_neg (by decide)]
      unfold atomM
      refine PQ.ask ?_
      refine PQ.ask ?_
      rw [if_neg (by rw [hS.tok.1]; decide), if_neg (by rw [hS.tok.1]; decide)]
      refine PQ.ask ?_
      rw [hS.isS, if_neg (by decide)]
      refine PQ.ask ?_
      rw [hS.isS, if_neg (by decide)]
      refine PQ.ask ?_
      rw [hS.isS, if_pos (by decide)]
      exact inside_q ((ex_full e hw).1 0 (by omega)) hB (by decide) hF.ne hS
  | succ d ih =>
    intro lv hlv n s N D rest hB hF hS
    cases n with
    | zero => exact PQ.none
    | succ n =>
      unfold exM
      rw [if_neg (by omega)]
      refine PQ.ask ?_
      refine PQ.bind (ih (lv + 1) (by omega) n s N D rest hB (hF.up (by omega)) hS) (fun x => mono_chain erq_lost (mono_ex erq_lost _ _) _ _ _) ?_
      rintro x s' ⟨rfl, h2⟩
      cases n with
      | zero => exact PQ.none
      | succ n =>
        unfold chainR
        refine PQ.ask ?_
        rw [(hF.no h2).2 lv (Nat.le_refl _) (by omega), if_neg (by decide)]
        exact PQ.ret ⟨rfl, h2⟩
/-- A block of one statement that prints. -/
theorem one_q {M : Nat} {e : Ex} {X rest : List (Nat × List UInt8)} (hx : ∀ n s N D, (B → WE 0 D e ∧ D = 1) → Sx T N D (X ++ (5, [59]) :: (5, [125]) :: rest) s → PQ B (exM src T n 0) s (fun y s' => y = ((N.length + kE e : Nat) : Int) ∧ Sx T (N ++ flE e N.length) D ((5, [59]) :: (5, [125]) :: rest) s'))
    (hB : B → WE 0 1 e) (hne : X ≠ []) : ∀ s N, Sx T N 1 ((4, [112, 114, 105, 110, 116]) :: (X ++ (5, [59]) :: (5, [125]) :: rest)) s → PQ B (stmsR T (stM src T M M) M []) s (fun r' s' => r' = rootB (.cons (.print e) .nil) N.length ∧ Sx T (N ++ flB (.cons (.print e) .nil) N.length) 1 ((5, [125]) :: rest) s') := by
  intro s N hS
  cases M with
  | zero => exact PQ.none
  | succ M =>
    unfold stmsR
    refine PQ.ask ?_
    rw [if_pos (by rw [decide_eq_true hS.er, hS.isS]; rfl)]
    refine PQ.bind (R := fun y s' => y = ((N.length + kS (.print e) : Nat) : Int) ∧ Sx T (N ++ flS (.print e) N.length) 1 ((5, [125]) :: rest) s') ?_ (fun _ => mono_stms erq_lost (mono_st erq_lost _ _) _ _) ?_
    · -- the statement
      unfold stM statementM
      refine PQ.ask ?_
      refine PQ.ask ?_
      rw [word_st hS, if_neg (by decide)]
      refine PQ.ask ?_
      rw [word_st hS, if_neg (by decide)]
      refine PQ.ask ?_
      rw [hS.calls_no (by decide), if_neg (by decide)]
      refine PQ.ask ?_
      rw [word_st hS, if_pos (by decide)]
      refine PQ.mod ?_
      refine PQ.bind (hx _ _ N 1 (fun b => ⟨hB b, rfl⟩) (hS.next (by simp [hne]))) (fun _ => mono_ended erq_lost _ _) ?_
      rintro y s2 ⟨rfl, h2⟩
      refine (ended_q _ _ (by simp) h2).mono ?_
      rintro y s3 ⟨rfl, h3⟩
      refine ⟨by rw [len_E]; unfold kS; rfl, ?_⟩
      unfold flS
      rw [← List.append_assoc]
      exact h3
    · rintro y s2 ⟨rfl, h2⟩
      cases M with
      | zero => exact PQ.none
      | succ M =>
        unfold stmsR
        refine PQ.ask ?_
        rw [h2.isS, if_neg (by simp)]
        refine PQ.ret ⟨by unfold rootB rootB; simp, ?_⟩
        unfold flB flB
        rw [List.append_nil]
        exact h2
theorem function_q0 {M : Nat} {f : Fnc} {b : Bl} {X rest : List (Nat × List UInt8)} (hp : ∀ p ∈ f.ps, WP p) (hret : 0 ≤ f.ret ∧ f.ret ≤ 4)
    (hblk : ∀ s N, Sx T N 0 ((5, [123]) :: (X ++ (5, [125]) :: rest)) s → PQ B (blockM src T M (stM src T M M)) s (fun y s' => y = ((N.length + kB b : Nat) : Int) ∧ Sx T (N ++ flK b N.length) 0 rest s'))
    (hS : Sx T N 0 (fnToks f X rest) s) : PQ B (functionM src T M) s (fun g s' => (∃ ln, g = { f with ln := ln, body := ((N.length + kB b : Nat) : Int) }) ∧ Sx T (N ++ flK b N.length) 0 rest s') := by
  unfold fnToks at hS
  unfold functionM
  refine PQ.ask ?_
  refine PQ.mod ?_
  obtain ⟨h1, h2⟩ := (hS.want4 (by simp)).name (by simp)
  refine PQ.ask ?_
  rw [h1]
  refine PQ.mod ?_
  refine PQ.mod ?_
  have h3 := h2.want (by simp)
  have mb : Mono Er (blockM src T M (stM src T M M)) := mono_block erq_lost (mono_st erq_lost _ _) _
  refine PQ.bind (R := fun r s' => r = f.ps ∧ Sx T N 0 ((5, [41]) :: (tks (pcW f.ret) ++ (5, [123]) :: (X ++ (5, [125]) :: rest))) s') ?_ (fun _ => Mono.want erq_lost ((mono_ret erq_lost).bind fun _ => mb.bind fun _ => Mono.ret)) ?_
  · unfold paramsM
    refine PQ.ask ?_
    cases hps : f.ps with
    | nil =>
      rw [hps] at h3
      have h3 : Sx T N 0 ((5, [41]) :: (tks (pcW f.ret) ++ (5, [123]) :: (X ++ (5, [125]) :: rest))) _ := h3
      rw [h3.isS, if_pos (by decide)]
      exact PQ.ret ⟨rfl, h3⟩
    | cons p l =>
      rw [hps] at h3 hp
      have e1 : ∀ R, tks (pcO (p :: l)) ++ R = tks (pcM p) ++ (tks (pcN l) ++ R) := fun R => by
        show tks (pcM p ++ pcN l) ++ R = _
        rw [tks_app, List.append_assoc]
      rw [e1] at h3
      have h4 : Sx T N 0 ((3, p.1) :: (4, wrd p.2) :: (tks (pcN l) ++ (5, [41]) :: (tks (pcW f.ret) ++ (5, [123]) :: (X ++ (5, [125]) :: rest)))) _ := h3
      rw [nameq_no (by decide) h4, if_neg (by decide)]
      refine PQ.bind (param_q (hp p (by simp)) (by simp) h3) (fun _ => mono_params erq_lost _ _) ?_
      rintro y s2 ⟨rfl, h5⟩
      refine (params_q M l [y] s2 (fun q hq => hp q (by simp [hq])) h5).mono ?_
      rintro r' s3 ⟨rfl, h6⟩
      exact ⟨rfl, h6⟩
  rintro r s2 ⟨rfl, h4⟩
  refine PQ.mod ?_
  have h5 := h4.want (by simp)
  refine PQ.bind (R := fun t s' => t = f.ret ∧ Sx T N 0 ((5, [123]) :: (X ++ (5, [125]) :: rest)) s') ?_ (fun _ => mb.bind fun _ => Mono.ret) ?_
  · unfold retM
    refine PQ.ask ?_
    unfold pcW at h5
    by_cases h0 : f.ret = 0
    · rw [if_pos h0] at h5
      have h5 : Sx T N 0 ((5, [123]) :: (X ++ (5, [125]) :: rest)) _ := h5
      rw [h5.isS, if_pos (by decide)]
      exact PQ.ret ⟨h0.symm, h5⟩
    · rw [if_neg h0] at h5
      have h5 : Sx T N 0 ((4, wrd f.ret) :: (5, [123]) :: (X ++ (5, [125]) :: rest)) _ := h5
      rw [h5.isS, if_neg (by
        have h1 : f.ret = 1 ∨ f.ret = 2 ∨ f.ret = 3 ∨ f.ret = 4 := by omega
        rcases h1 with h | h | h | h <;> rw [h] <;> decide)]
      exact kind_q (by omega) (by simp) h5
  rintro t s3 ⟨rfl, h6⟩
  refine PQ.bind (hblk _ _ h6) (fun _ => Mono.ret) ?_
  rintro y s4 ⟨rfl, h7⟩
  exact PQ.ret ⟨⟨_, rfl⟩, h7⟩
end
/-- A source of one function that prints. -/
def fMain : Fnc := ⟨[109, 97, 105, 110], 0, [], 0, 0⟩
theorem main_run {B : Prop} {src : List UInt8} {e : Ex} {X : List (Nat × List UInt8)} {T : List Tok} (hT : T.map (fun t => (t.k, t.x)) = fnToks fMain ((4, [112, 114, 105, 110, 116]) :: (X ++ [(5, [59])])) [(0, [])]) (hne : X ≠ [])
    (hx : ∀ n s N D, (B → WE 0 D e ∧ D = 1) → Sx T N D (X ++ (5, [59]) :: (5, [125]) :: [(0, [])]) s → PQ B (exM src T n 0) s (fun y s' => y = ((N.length + kE e : Nat) : Int) ∧ Sx T (N ++ flE e N.length) D ((5, [59]) :: (5, [125]) :: [(0, [])]) s')) (hB : B → WE 0 1 e) :
    PQ B (fnsR src T 6100 6100 []) ⟨0, 0, 0, [], 0⟩ (fun r' s' => Sx T (flE e 0 ++ [⟨14, 0, 0, [], [((kE e : Nat) : Int)]⟩, ⟨18, 0, 0, [], [((kE e + 1 : Nat) : Int)]⟩]) 0 [(0, [])] s') := by
  have hS : Sx T [] 0 (fnToks fMain ((4, [112, 114, 105, 110, 116]) :: (X ++ [(5, [59])])) [(0, [])]) ⟨0, 0, 0, [], 0⟩ := ⟨by unfold Rs; exact hT, rfl, rfl, rfl⟩
  rw [show (6100 : Nat) = 6099 + 1 from rfl]
  unfold fnsR
  refine PQ.ask ?_
  have hk : (tokA T ⟨0, 0, 0, [], 0⟩).k = 4 := by unfold fnToks at hS; exact hS.tok.1
  rw [if_pos (by rw [hk]; rfl)]
  refine PQ.bind (function_q0 (f := fMain) (b := .cons (.print e) .nil) (fun p hp => (by cases hp)) (by decide) (fun s N hS2 => ?_) hS) (fun _ => mono_fns erq_lost _ _ _) ?_
  · unfold blockM
    refine PQ.ask ?_
    refine PQ.bind (open_q (fun _ => by decide) hS2 (by simp)) (fun _ => (mono_stms erq_lost (mono_st erq_lost _ _) _ _).bind fun _ => (mono_shut erq_lost _).bind fun _ => Mono.node (erq_lost (T := T)) _ _) ?_
    intro _ s1 h1
    have h1 : Sx T N 1 ((4, [112, 114, 105, 110, 116]) :: (X ++ (5, [59]) :: (5, [125]) :: [(0, [])])) s1 := by
      have e0 : ((4, [112, 114, 105, 110, 116]) :: (X ++ [(5, [59])])) ++ (5, [125]) :: [(0, [])] = (4, [112, 114, 105, 110, 116]) :: (X ++ (5, [59]) :: (5, [125]) :: [(0, [])]) := by simp
      rw [← e0]
      exact h1
    refine PQ.bind (one_q hx hB hne s1 N h1) (fun _ => (mono_shut erq_lost _).bind fun _ => Mono.node (erq_lost (T := T)) _ _) ?_
    rintro r' s2 ⟨rfl, h2⟩
    refine PQ.bind (shut_q (D := 0) h2 (by simp)) (fun _ => Mono.node (erq_lost (T := T)) _ _) ?_
    intro _ s3 h3
    refine (node_q _ _ h3).mono ?_
    rintro y s4 ⟨rfl, h4⟩
    refine ⟨by rw [List.length_append, flB_len], ?_⟩
    unfold flK
    rw [← List.append_assoc]
    exact h4
  · rintro f s2 ⟨_, h2⟩
    · rw [show (6099 : Nat) = 6098 + 1 from rfl]
      unfold fnsR
      refine PQ.ask ?_
      rw [if_neg (by rw [h2.tok.1]; simp)]
      refine PQ.ret ?_
      have e1 : [] ++ flK (.cons (.print e) .nil) ([] : List Nd).length = flE e 0 ++ [⟨14, 0, 0, [], [((kE e : Nat) : Int)]⟩, ⟨18, 0, 0, [], [((kE e + 1 : Nat) : Int)]⟩] := by
        show flB (.cons (.print e) .nil) 0 ++ [⟨18, 0, 0, [], rootB (.cons (.print e) .nil) 0⟩] = _
        unfold flB rootB
        unfold flB rootB flS kS
        simp
      rw [e1] at h2
      exact h2
/-- What such a source comes to. -/
def Parts (e : Ex) (s : List UInt8) : Prop := (∃ p, allP 6100 s = some (.inl (p, 4))) ∨ ∃ nd fs, allP 6100 s = some (.inr (nd, fs)) ∧ nd.map uz = flE e 0 ++ [⟨14, 0, 0, [], [((kE e : Nat) : Int)]⟩, ⟨18, 0, 0, [], [((kE e + 1 : Nat) : Int)]⟩]
def Parts2 (e : Ex) (s : List UInt8) : Prop := (∃ p er, er ≠ 0 ∧ allP 6100 s = some (.inl (p, er))) ∨ ∃ nd fs, allP 6100 s = some (.inr (nd, fs)) ∧ nd.map uz = flE e 0 ++ [⟨14, 0, 0, [], [((kE e : Nat) : Int)]⟩, ⟨18, 0, 0, [], [((kE e + 1 : Nat) : Int)]⟩]
theorem parts_run {B : Prop} {e : Ex} {l : List Pc} {X : List (Nat × List UInt8)} (hl : LexP l none) (ht : l.map kx ++ [(0, [])] = fnToks fMain ((4, [112, 114, 105, 110, 116]) :: (X ++ [(5, [59])])) [(0, [])]) (hne : X ≠ [])
    (hx : ∀ T n s N D, (B → WE 0 D e ∧ D = 1) → Sx T N D (X ++ (5, [59]) :: (5, [125]) :: [(0, [])]) s → PQ B (exM (rend l) T n 0) s (fun y s' => y = ((N.length + kE e : Nat) : Int) ∧ Sx T (N ++ flE e N.length) D ((5, [59]) :: (5, [125]) :: [(0, [])]) s')) (hB : B → WE 0 1 e) :
    (∃ p, allP 6100 (rend l) = some (.inl (p, 4))) ∨ (¬ B ∧ ∃ p er, er ≠ 0 ∧ allP 6100 (rend l) = some (.inl (p, er))) ∨ ∃ nd fs, allP 6100 (rend l) = some (.inr (nd, fs)) ∧ nd.map uz = flE e 0 ++ [⟨14, 0, 0, [], [((kE e : Nat) : Int)]⟩, ⟨18, 0, 0, [], [((kE e + 1 : Nat) : Int)]⟩] := by
  by_cases hbig : 600 < (rend l).length
  · left
    unfold allP
    rw [if_pos hbig]
    exact ⟨0, rfl⟩
  · obtain ⟨T, h1, h2⟩ := lex_pcs l (rend l).length 0 hl (Nat.le_refl _)
    have hL : lexL (rend l) 0 = (T, none) := h1
    obtain ⟨res, hres⟩ := allP_some (rend l) 6100 (Nat.le_refl _)
    have hr := hres
    unfold allP at hr
    rw [if_neg hbig, hL] at hr
    have hr : (fnsR (rend l) T 6100 6100 [] ⟨0, 0, 0, [], 0⟩).map (fun p => treeP p.1 p.2) = some res := hr
    cases hm : fnsR (rend l) T 6100 6100 [] ⟨0, 0, 0, [], 0⟩ with
    | none => rw [hm] at hr; cases hr
    | some q =>
      obtain ⟨fs', s'⟩ := q
      rw [hm] at hr
      have hr : treeP fs' s' = res := Option.some.inj hr
      rcases main_run (src := rend l) (by rw [h2, ht]) hne (hx T) hB fs' s' hm with h4 | ⟨h3, h4⟩
      · unfold treeP at hr
        rw [if_pos h4.er] at hr
        split at hr
        · left
          exact ⟨0, by rw [hres, ← hr]⟩
        · right; right
          exact ⟨s'.nd, fs', by rw [hres, ← hr], h4.nd⟩
      · unfold treeP at hr
        have h4 : s'.er ≠ 0 := h4
        rw [if_neg h4] at hr
        right; left
        exact ⟨h3, s'.pl, s'.er, h4, by rw [hres, ← hr]⟩
def pcHead : List Pc := [⟨4, [102, 110], [32]⟩, ⟨3, [109, 97, 105, 110], []⟩, sgn [40], sgn [41], sgn [123], ⟨4, [112, 114, 105, 110, 116], [32]⟩]
theorem lex_head {l : List Pc} {c : Option UInt8} (h : LexP l c) : LexP (pcHead ++ l) c := by
  have hm : NameOK [109, 97, 105, 110] := ⟨by decide, by decide, by decide, by decide, by decide⟩
  exact lex_b (tok_word (by decide)) (.inl rfl) (lex_w (tok_name hm) (by decide) (by show nmc 40 = false; decide) (lex_sg (tok_sg (by decide)) (nx_plain (by decide)) (lex_sg (tok_sg (by decide)) (nx_plain (by decide)) (lex_sg (tok_sg (by decide)) (nx_plain (by decide)) (lex_b (tok_word (by decide)) (.inl rfl) h)))))
theorem lex_two : LexP [sgn [59], sgn [125]] none := lex_sg (tok_sg (by decide)) (nx_plain (by decide)) (lex_sg (tok_sg (by decide)) (nx_plain (by decide)) (show LexP [] none from trivial))
theorem lex_three : LexP [sgn [41], sgn [59], sgn [125]] none := lex_sg (tok_sg (by decide)) (nx_plain (by decide)) lex_two
def pre1 : List UInt8 := [102, 110, 32, 109, 97, 105, 110, 40, 41, 123, 112, 114, 105, 110, 116, 32]
theorem parts_one {e : Ex} (h : WE 0 1 e) : Parts e (pre1 ++ showE e ++ [59, 125]) := by
  have hr : rend (pcHead ++ (pcE e ++ [sgn [59], sgn [125]])) = pre1 ++ showE e ++ [59, 125] := by
    rw [rend_append, rend_append, rend_E]
    show rend pcHead ++ (showE e ++ [59, 125]) = _
    rw [← List.append_assoc]
    rfl
  rw [← hr]
  obtain ⟨h1, h2⟩ := exp_lex e ⟨_, _, h⟩
  have hX : tks (pcE e) ≠ [] := by
    intro hX
    obtain ⟨k, x, k', x', r, h1, _⟩ := e_first e ⟨_, _, h⟩ ((5, [59]) :: []) (f_semi _).nc
    rw [hX] at h1
    simp at h1
  have ht : (pcHead ++ (pcE e ++ [sgn [59], sgn [125]])).map kx ++ [(0, [])] = fnToks fMain ((4, [112, 114, 105, 110, 116]) :: (tks (pcE e) ++ [(5, [59])])) [(0, [])] := by
    show tks (pcHead ++ (pcE e ++ [sgn [59], sgn [125]])) ++ [(0, [])] = _
    rw [tks_app, tks_app]
    show _ = (4, [102, 110]) :: (3, [109, 97, 105, 110]) :: (5, [40]) :: ([] ++ (5, [41]) :: ([] ++ (5, [123]) :: ((4, [112, 114, 105, 110, 116]) :: (tks (pcE e) ++ [(5, [59])]) ++ (5, [125]) :: [(0, [])])))
    simp [pcHead, tks, kx, sgn]
  rcases parts_run (B := True) (e := e) (lex_head (LexP_append _ _ none (h1 _ (by show nmc 59 = false; decide)) lex_two)) ht hX (fun T n s N D hB hS => ex_tok ⟨_, _, h⟩ (fun b => (hB b).1) (f_semi _) hS) (fun _ => h) with h3 | ⟨h3, _⟩ | h3
  · exact .inl h3
  · exact absurd trivial h3
  · exact .inr h3
theorem parts_two {e : Ex} (h : WE 0 1 e) : Parts2 e (pre1 ++ [40] ++ showE e ++ [41, 59, 125]) := by
  have hr : rend (pcHead ++ (sgn [40] :: (pcE e ++ [sgn [41], sgn [59], sgn [125]]))) = pre1 ++ [40] ++ showE e ++ [41, 59, 125] := by
    rw [rend_append, rend_cons, rend_append, rend_E]
    show rend pcHead ++ ([40] ++ (showE e ++ [41, 59, 125])) = _
    rw [← List.append_assoc, ← List.append_assoc]
    rfl
  rw [← hr]
  obtain ⟨h1, h2⟩ := exp_lex e ⟨_, _, h⟩
  have ht : (pcHead ++ (sgn [40] :: (pcE e ++ [sgn [41], sgn [59], sgn [125]]))).map kx ++ [(0, [])] = fnToks fMain ((4, [112, 114, 105, 110, 116]) :: (((5, [40]) :: (tks (pcE e) ++ [(5, [41])])) ++ [(5, [59])])) [(0, [])] := by
    show tks (pcHead ++ (sgn [40] :: (pcE e ++ [sgn [41], sgn [59], sgn [125]]))) ++ [(0, [])] = _
    rw [tks_app, tks_sg, tks_app]
    show _ = (4, [102, 110]) :: (3, [109, 97, 105, 110]) :: (5, [40]) :: ([] ++ (5, [41]) :: ([] ++ (5, [123]) :: ((4, [112, 114, 105, 110, 116]) :: (((5, [40]) :: (tks (pcE e) ++ [(5, [41])])) ++ [(5, [59])]) ++ (5, [125]) :: [(0, [])])))
    simp [pcHead, tks, kx, sgn]
  rcases parts_run (B := WE 0 2 e) (e := e) (lex_head (lex_sg (tok_sg (by decide)) (nx_plain (by decide)) (LexP_append _ _ none (h1 _ (by show nmc 41 = false; decide)) lex_three))) ht (by simp) (fun T n s N D hB hS => par_any ⟨_, _, h⟩ 5 0 rfl n s N D _ (fun b => by obtain ⟨h3, rfl⟩ := hB b; exact ⟨by decide, b⟩) (f_semi _) (by rw [List.cons_append, List.append_assoc] at hS; exact hS)) (fun _ => h) with ⟨p, h3⟩ | ⟨_, h3⟩ | h3
  · exact .inl ⟨p, 4, by decide, h3⟩
  · exact .inl h3
  · exact .inr h3
end Go.Proofs.YtgelggdgbmldiaaDoor
