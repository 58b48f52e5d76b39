/-
  Layer 2: the document's example. Written by an AI agent.
  Layer 2: what ParseBelow asks of the nodes, as data. Written by an AI agent.
  Layer 2: what a parser tells, in one form; how much it is at most. Written by an AI agent.
  Layer 3: the text of an expression (data), a tree's node in memory. Written by an AI agent.
  Layer 3: the document's Level. Written by an AI agent.
  Layer 3: the document's text of an expression. Written by an AI agent.
  Layer 3: the document's text of a call. Written by an AI agent.
  Layer 3: the document's Expr tells the text of any expression. Written by an AI agent.
  Layer 3: the document's text of an expression. Written by an AI agent.
  Layer 2: two trees that are the same. Written by an AI agent.
-/
import Derived.Shelf.Strconv.Itoa3
import Derived.Lib.LaidTab
import Derived.Lib.ItoaLen
import Derived.Test.YtgelggdgbmldiaaDoorMkal
namespace Go.Proofs.YtgelggdgbmldiaaDoor
open Go Go.RowKit Go.Shelf
set_option linter.unusedVariables false
set_option linter.unusedSimpArgs false
/-- The nodes of a tree, one by one. -/
theorem TreeR.nodeAt {B : Nat} {w : World} {A A' : Option Addr} {nd : List Nd} {fs : List Fnc} (h : TreeR B w A A' nd fs) (h0 : 0 < nd.length) : ∃ b off, A = some ⟨b, off, none⟩ ∧ ∀ i (hi : i < nd.length), ∃ a c,
    w.cell? ⟨b, off + i * 5, none⟩ = some (.int .i64 (nd[i]).k) ∧ w.cell? ⟨b, off + i * 5 + 1, none⟩ = some (.int .i64 (nd[i]).ln) ∧ w.cell? ⟨b, off + i * 5 + 2, none⟩ = some (.int .i64 (nd[i]).n) ∧
    w.cell? ⟨b, off + i * 5 + 3, none⟩ = some (.string (ofL (nd[i]).s)) ∧ w.cell? ⟨b, off + i * 5 + 4, none⟩ = some (.slice a (nd[i]).l.length c) ∧ RdI w a (nd[i]).l := by
  obtain ⟨L, rfl, hr, hl⟩ := h.nodes
  rw [List.length_map] at h0
  obtain ⟨b, off, e, hc⟩ := hr (by rw [flatN_length]; omega)
  refine ⟨b, off, e, fun i hi => ?_⟩
  rw [List.length_map] at hi
  have hcc : ∀ j u, (L[i]).cells[j]? = some u → j < 5 → w.cell? ⟨b, off + i * 5 + j, none⟩ = some u := fun j u hu hj => by
    rw [Nat.add_assoc]
    exact hc (i * 5 + j) u (by rw [flatN_at L i j hi hj]; exact hu)
  simp only [List.getElem_map]
  exact ⟨(L[i]).a, (L[i]).c, hcc 0 _ rfl (by omega), hcc 1 _ rfl (by omega), hcc 2 _ rfl (by omega), hcc 3 _ rfl (by omega), hcc 4 _ rfl (by omega), hl _ (List.getElem_mem hi)⟩
/-- The functions of a tree, one by one. -/
theorem TreeR.fnAt {B : Nat} {w : World} {A A' : Option Addr} {nd : List Nd} {fs : List Fnc} (h : TreeR B w A A' nd fs) (h0 : 0 < fs.length) : ∃ b off, A' = some ⟨b, off, none⟩ ∧ ∀ i (hi : i < fs.length), ∃ a c,
    w.cell? ⟨b, off + i * 5, none⟩ = some (.string (ofL (fs[i]).s)) ∧ w.cell? ⟨b, off + i * 5 + 1, none⟩ = some (.int .i64 (fs[i]).ln) ∧ w.cell? ⟨b, off + i * 5 + 2, none⟩ = some (.slice a (fs[i]).ps.length c) ∧
    w.cell? ⟨b, off + i * 5 + 3, none⟩ = some (.int .i64 (fs[i]).ret) ∧ w.cell? ⟨b, off + i * 5 + 4, none⟩ = some (.int .i64 (fs[i]).body) ∧ RdG w a (flatP (fs[i]).ps) := by
  obtain ⟨L, rfl, hr, hl⟩ := h.fns
  rw [List.length_map] at h0
  obtain ⟨b, off, e, hc⟩ := hr (by rw [flatF_length]; omega)
  refine ⟨b, off, e, fun i hi => ?_⟩
  rw [List.length_map] at hi
  have hcc : ∀ j u, (L[i]).cells[j]? = some u → j < 5 → w.cell? ⟨b, off + i * 5 + j, none⟩ = some u := fun j u hu hj => by
    rw [Nat.add_assoc]
    exact hc (i * 5 + j) u (by rw [flatF_at L i j hi hj]; exact hu)
  simp only [List.getElem_map]
  exact ⟨(L[i]).a, (L[i]).c, hcc 0 _ rfl (by omega), hcc 1 _ rfl (by omega), hcc 2 _ rfl (by omega), hcc 3 _ rfl (by omega), hcc 4 _ rfl (by omega), hl _ (List.getElem_mem hi)⟩
end Go.Proofs.YtgelggdgbmldiaaDoor

namespace Go.Proofs.YtgelggdgbmldiaaDoor
set_option linter.unusedVariables false
set_option linter.unusedSimpArgs false
theorem Fo.roots {b : Nat} {nd : List Nd} {xs : List Int} (h : Fo b nd xs) : xs.Pairwise (· < ·) ∧ ∀ x ∈ xs, ∃ j : Nat, x = ((b + j : Nat) : Int) ∧ j < nd.length := by
  induction h with
  | nil b => exact ⟨List.Pairwise.nil, fun x hx => by cases hx⟩
  | cat h1 h2 ih1 ih2 =>
    rename_i b nd nd' xs ys
    refine ⟨List.pairwise_append.mpr ⟨ih1.1, ih2.1, ?_⟩, ?_⟩
    · intro x hx y hy
      obtain ⟨j, rfl, hj⟩ := ih1.2 x hx
      obtain ⟨k, rfl, hk⟩ := ih2.2 y hy
      omega
    · intro x hx
      rw [List.length_append]
      rcases List.mem_append.mp hx with h | h
      · obtain ⟨j, e, hj⟩ := ih1.2 x h
        exact ⟨j, e, by omega⟩
      · obtain ⟨j, e, hj⟩ := ih2.2 x h
        exact ⟨nd.length + j, by rw [e]; omega, by omega⟩
  | node n h1 h2 h3 ih =>
    rename_i b nd
    refine ⟨List.pairwise_singleton _ _, ?_⟩
    intro x hx
    rw [List.mem_singleton.mp hx]
    exact ⟨nd.length, rfl, by rw [List.length_append]; exact Nat.lt_succ_self _⟩
/-- A node and what is below it. -/
def Kid (b : Nat) (nd : List Nd) (i : Nat) (n : Nd) : Prop :=
  manyK n.k n.l.length = true ∧ n.l.Pairwise (· < ·) ∧ ∀ x ∈ n.l, ∃ (j : Nat) (m : Nd), x = ((b + j : Nat) : Int) ∧ j < i ∧ nd[j]? = some m ∧ n.ln ≤ m.ln
theorem Fo.kids {b : Nat} {nd : List Nd} {xs : List Int} (h : Fo b nd xs) : ∀ i n, nd[i]? = some n → Kid b nd i n := by
  induction h with
  | nil b => intro i n hn; simp at hn
  | cat h1 h2 ih1 ih2 =>
    rename_i b nd nd' xs ys
    intro i n hn
    by_cases hi : i < nd.length
    · rw [List.getElem?_append_left hi] at hn
      obtain ⟨k1, k2, k3⟩ := ih1 i n hn
      refine ⟨k1, k2, fun x hx => ?_⟩
      obtain ⟨j, m, e, hj, hm, hl⟩ := k3 x hx
      exact ⟨j, m, e, hj, by rw [List.getElem?_append_left (by omega)]; exact hm, hl⟩
    · rw [List.getElem?_append_right (by omega)] at hn
      obtain ⟨k1, k2, k3⟩ := ih2 (i - nd.length) n hn
      refine ⟨k1, k2, fun x hx => ?_⟩
      obtain ⟨j, m, e, hj, hm, hl⟩ := k3 x hx
      exact ⟨nd.length + j, m, by rw [e]; omega, by omega, by rw [List.getElem?_append_right (by omega), Nat.add_sub_cancel_left]; exact hm, hl⟩
  | node n h1 h2 h3 ih =>
    rename_i b nd
    intro i n' hn
    by_cases hi : i < nd.length
    · rw [List.getElem?_append_left hi] at hn
      obtain ⟨k1, k2, k3⟩ := ih i n' hn
      refine ⟨k1, k2, fun x hx => ?_⟩
      obtain ⟨j, m, e, hj, hm, hl⟩ := k3 x hx
      exact ⟨j, m, e, hj, by rw [List.getElem?_append_left (by omega)]; exact hm, hl⟩
    · have hi2 : i = nd.length := by
        have := (List.getElem?_eq_some_iff.mp hn).1
        rw [List.length_append] at this
        have h1 : [n].length = 1 := rfl
        omega
      subst hi2
      rw [List.getElem?_append_right (Nat.le_refl _), Nat.sub_self] at hn
      obtain rfl : n = n' := Option.some.inj hn
      refine ⟨h3, h1.roots.1, fun x hx => ?_⟩
      obtain ⟨j, e, hj⟩ := h1.roots.2 x hx
      exact ⟨j, nd[j], e, hj, by rw [List.getElem?_append_left hj]; exact List.getElem?_eq_getElem hj, h2 _ (List.getElem_mem hj)⟩
theorem Fo.count {b : Nat} {nd : List Nd} {xs : List Int} (h : Fo b nd xs) (v : Int) : (nd.flatMap Nd.l).count v + xs.count v = if (b : Int) ≤ v ∧ v < (b : Int) + nd.length then 1 else 0 := by
  induction h with
  | nil b => rw [if_neg (by rintro ⟨h1, h2⟩; simp at h2; omega)]; rfl
  | cat h1 h2 ih1 ih2 =>
    rename_i b nd nd' xs ys
    rw [List.flatMap_append, List.count_append, List.count_append, List.length_append]
    rw [Int.natCast_add] at ih2 ⊢
    by_cases c1 : (b : Int) ≤ v ∧ v < (b : Int) + nd.length
    · rw [if_pos c1] at ih1
      rw [if_neg (by omega)] at ih2
      rw [if_pos (by omega)]
      omega
    · rw [if_neg c1] at ih1
      by_cases c2 : (b : Int) + nd.length ≤ v ∧ v < (b : Int) + nd.length + nd'.length
      · rw [if_pos c2] at ih2
        rw [if_pos (by omega)]
        omega
      · rw [if_neg c2] at ih2
        rw [if_neg (by omega)]
        omega
  | node n h1 h2 h3 ih =>
    rename_i b nd
    have hf : ([n].flatMap Nd.l) = n.l := by simp
    rw [List.flatMap_append, List.count_append, hf, ih, List.length_append]
    have h0 : [n].length = 1 := rfl
    rw [h0]
    by_cases hv : v = ((b + nd.length : Nat) : Int)
    · rw [if_neg (by omega), if_pos (by omega), hv]
      simp
    · rw [List.count_eq_zero_of_not_mem (by simpa using hv)]
      by_cases c : (b : Int) ≤ v ∧ v < (b : Int) + nd.length
      · rw [if_pos c, if_pos (by omega)]
      · rw [if_neg c, if_neg (by omega)]
theorem line_up (l : List UInt8) (a : Int) (k : Nat) : lineL l a ≤ lineL l (a + k) := by
  induction k with
  | zero => exact Nat.le_of_eq (by rw [show a + ((0 : Nat) : Int) = a by omega])
  | succ k ih =>
    rw [show a + ((k + 1 : Nat) : Int) = a + k + 1 by omega, line_next]
    omega
theorem pl_up (s : List UInt8) : ∀ (T : List Tok) (e : Nat), Pl s e T → ∀ i j, i ≤ j → j < T.length → e ≤ (T.getD i default).p ∧ (T.getD i default).p ≤ (T.getD j default).p := by
  intro T
  induction T with
  | nil => intro e h; exact absurd h (fun h => h)
  | cons t ts ih =>
    intro e h i j hij hj
    obtain ⟨h1, h2, h3, h4⟩ := h
    rcases h4 with ⟨rfl, rfl⟩ | ⟨hne, _, _, _, h8⟩
    · have : j = 0 := by simp at hj; exact hj
      subst this
      obtain rfl : i = 0 := by omega
      exact ⟨h1, Nat.le_refl _⟩
    · cases j with
      | zero =>
        obtain rfl : i = 0 := by omega
        exact ⟨h1, Nat.le_refl _⟩
      | succ j =>
        rw [List.length_cons] at hj
        cases i with
        | zero =>
          have := ih _ h8 0 j (Nat.zero_le _) (by omega)
          exact ⟨h1, by show t.p ≤ (ts.getD j default).p; omega⟩
        | succ i =>
          have := ih _ h8 i j (by omega) (by omega)
          exact ⟨by show e ≤ (ts.getD i default).p; omega, this.2⟩
theorem lexL_LnT (src : List UInt8) (h : (lexL src 0).2 = none) : LnT src (lexL src 0).1 := by
  have hp := lexL_places src src 0 0 rfl (Nat.zero_le _) (Nat.le_refl _) (by simpa using gap_nil) h
  refine ⟨List.length_pos_iff.mpr (lexL_ne src 0 h), ?_⟩
  intro i j hij hj
  obtain ⟨h1, h2⟩ := pl_up src _ 0 hp i j hij hj
  have h3 := line_up src ((((lexL src 0).1.getD i default).p : Nat) : Int) (((lexL src 0).1.getD j default).p - ((lexL src 0).1.getD i default).p)
  rwa [show ((((lexL src 0).1.getD i default).p : Nat) : Int) + (((((lexL src 0).1.getD j default).p - ((lexL src 0).1.getD i default).p : Nat)) : Int) = ((((lexL src 0).1.getD j default).p : Nat) : Int) by omega] at h3
/-- What ParseBelow asks of a tree. -/
structure BelowT (nd : List Nd) (fs : List Fnc) : Prop where
  kids : ∀ i n, nd[i]? = some n → Kid 0 nd i n
  bods : ∀ f ∈ fs, ∃ (j : Nat) (m : Nd), f.body = (j : Int) ∧ nd[j]? = some m ∧ m.k = 18
  ones : ∀ j : Nat, j < nd.length → (nd.flatMap Nd.l).count (j : Int) + (fs.map Fnc.body).count (j : Int) = 1
  many : nd.length ≤ 300
  fns : fs.length ≤ 6
theorem belowT_of (N : Nat) (src : List UInt8) (nd : List Nd) (fs : List Fnc) (h : allP N src = some (.inr (nd, fs))) : BelowT nd fs := by
  unfold allP at h
  split at h
  · cases h
  split at h
  · cases h
  rename_i hn
  have hL := lexL_LnT src hn
  cases hr : fnsR src (lexL src 0).1 N N [] ⟨0, 0, 0, [], 0⟩ with
  | none => rw [hr] at h; cases h
  | some r =>
    rw [hr] at h
    obtain ⟨l, s⟩ := r
    have h1 : treeP l s = .inr (nd, fs) := Option.some.inj h
    obtain ⟨g, hb⟩ := fns_p hL (N := N) (s0 := ⟨0, 0, 0, [], 0⟩) N [] ⟨0, 0, 0, [], 0⟩ (G.self hL.1) (fun f hf => by cases hf) l s hr
    unfold treeP at h1
    split at h1
    · split at h1
      · cases h1
      · rename_i hc
        cases h1
        simp only [Bool.or_eq_true, decide_eq_true_eq, not_or] at hc
        obtain ⟨_, _, nd', hnd, hF, _⟩ := g
        have hnd : s.nd = nd' := hnd
        subst hnd
        have hF : Fo 0 s.nd (fs.map Fnc.body) := hF
        refine ⟨hF.kids, ?_, ?_, by omega, by omega⟩
        · intro f hf
          obtain ⟨b1, b2⟩ := hb f hf
          obtain ⟨j, e, hj⟩ := hF.roots.2 f.body (List.mem_map_of_mem hf)
          rw [Nat.zero_add] at e
          refine ⟨j, s.nd[j], e, List.getElem?_eq_getElem hj, ?_⟩
          rw [e, Int.toNat_natCast, List.getD_eq_getElem?_getD, List.getElem?_eq_getElem hj] at b1
          exact b1
        · intro j hj
          have := hF.count (j : Int)
          rw [if_pos (by omega)] at this
          exact this
    · cases h1
end Go.Proofs.YtgelggdgbmldiaaDoor

namespace Go.Proofs.YtgelggdgbmldiaaDoor
open Go Go.RowKit Go.Shelf
set_option linter.unusedVariables false
set_option linter.unusedSimpArgs false
abbrev Res := (Nat × Nat) ⊕ (List Nd × List Fnc)
def ndsOf : Res → List Nd | .inl _ => [] | .inr t => t.1
def fnsOf : Res → List Fnc | .inl _ => [] | .inr t => t.2
def atOf : Res → Nat | .inl p => p.1 | .inr _ => 0
def erOf : Res → Nat | .inl p => p.2 | .inr _ => 0
theorem treeR_nil (w : World) : TreeR 0 w none none [] [] := ⟨⟨[], rfl, fun h => absurd h (by simp [flatN]), fun x hx => by cases hx⟩, ⟨[], rfl, fun h => absurd h (by simp [flatF]), fun x hx => by cases hx⟩⟩
theorem treeE_all {res : Res} {e : Ending} {w' : World} (h : TreeE 0 res e w') : ∃ A c A' c', e = .returned (.tuple #[.agg #[.slice A (ndsOf res).length c, .slice A' (fnsOf res).length c'], .int .i64 (atOf res : Int), .int .i64 (erOf res : Int)]) ∧ TreeR 0 w' A A' (ndsOf res) (fnsOf res) := by
  cases res with
  | inl p => exact ⟨none, 0, none, 0, h, treeR_nil w'⟩
  | inr t =>
    obtain ⟨A, c, A', c', h1, h2⟩ := h
    exact ⟨A, c, A', c', h1, h2⟩
theorem below_len : ∀ (l : List Int) (b i : Nat), l.Pairwise (· < ·) → (∀ x ∈ l, ∃ j : Nat, x = (j : Int) ∧ b ≤ j ∧ j < i) → l.length ≤ i - b := by
  intro l
  induction l with
  | nil => intro b i _ _; exact Nat.zero_le _
  | cons a l ih =>
    intro b i hp hx
    obtain ⟨j, e, h1, h2⟩ := hx a (List.mem_cons_self ..)
    have hp2 := List.pairwise_cons.1 hp
    have := ih (j + 1) i hp2.2 (fun x hxm => by
      obtain ⟨k, e2, h3, h4⟩ := hx x (List.mem_cons_of_mem _ hxm)
      have h5 := hp2.1 x hxm
      exact ⟨k, e2, by omega, h4⟩)
    rw [List.length_cons]
    omega
structure Fit (nd : List Nd) (fs : List Fnc) : Prop where
  nds : nd.length ≤ 300
  kids : ∀ x ∈ nd, x.l.length ≤ 300
  fns : fs.length ≤ 6
  prs : ∀ x ∈ fs, x.ps.length ≤ 3
theorem fit_of {N : Nat} {src : List UInt8} {res : Res} (h : allP N src = some res) : Fit (ndsOf res) (fnsOf res) := by
  cases res with
  | inl p => exact ⟨Nat.zero_le _, fun x hx => (by cases hx), Nat.zero_le _, fun x hx => (by cases hx)⟩
  | inr t =>
    obtain ⟨nd, fs⟩ := t
    have hB := belowT_of N src nd fs h
    refine ⟨hB.many, fun x hx => ?_, hB.fns, ?_⟩
    · obtain ⟨i, hi, e⟩ := List.getElem_of_mem hx
      obtain ⟨_, h1, h2⟩ := hB.kids i x ((List.getElem?_eq_getElem (show i < nd.length from hi)).trans (congrArg some e))
      have := below_len x.l 0 i h1 (fun y hy => by
        obtain ⟨j, m, e1, e2, _, _⟩ := h2 y hy
        exact ⟨j, by rw [e1]; omega, Nat.zero_le _, e2⟩)
      have h3 := hB.many
      have hi : i < nd.length := hi
      omega
    · unfold allP at h
      split at h
      · cases h
      split at h
      · cases h
      cases hr : fnsR src (lexL src 0).1 N N [] ⟨0, 0, 0, [], 0⟩ with
      | none => rw [hr] at h; cases h
      | some r =>
        rw [hr] at h
        obtain ⟨l, s⟩ := r
        have h1 : treeP l s = .inr (nd, fs) := Option.some.inj h
        unfold treeP at h1
        split at h1
        · split at h1
          · cases h1
          · rename_i hc
            cases h1
            intro x hx
            simp only [Bool.or_eq_true, not_or] at hc
            have := hc.2
            rw [List.any_eq_true] at this
            by_cases h3 : 3 < x.ps.length
            · exact absurd ⟨x, hx, decide_eq_true h3⟩ this
            · omega
        · cases h1
end Go.Proofs.YtgelggdgbmldiaaDoor

namespace Go.Proofs.YtgelggdgbmldiaaDoor
open Go Go.RowKit Go.Shelf
set_option linter.unusedVariables false
set_option linter.unusedSimpArgs false
/-- How firmly a sign holds. -/
def lvl (s : List UInt8) : Nat := if s = [124, 124] then 0 else if s = [38, 38] then 1 else if s = [60] ∨ s = [60, 61] ∨ s = [61, 61] ∨ s = [33, 61] then 2 else if s = [43] ∨ s = [45] then 3 else 4
def lvE : Ex → Nat
  | .bin s _ _ => lvl s
  | .neg _ => 5
  | .not _ => 5
  | _ => 6
def parL (b : Bool) (t : List UInt8) : List UInt8 := if b then 40 :: (t ++ [41]) else t
def leftL (k : Nat) : Nat := if k = 2 then 3 else k
def showE : Ex → List UInt8
  | .int n => Lib.itoa n
  | .bool b => if b then [116, 114, 117, 101] else [102, 97, 108, 115, 101]
  | .text s => 34 :: (s ++ [34])
  | .var s => s
  | .index s a => s ++ 91 :: (showE a ++ [93])
  | .len a => 108 :: 101 :: 110 :: 40 :: (showE a ++ [41])
  | .neg a => 45 :: parL (decide (lvE a < 5)) (showE a)
  | .not a => 33 :: parL (decide (lvE a < 5)) (showE a)
  | .bin s a b => parL (decide (lvE a < leftL (lvl s))) (showE a) ++ (s ++ parL (decide (lvE b < lvl s + 1)) (showE b))
theorem parL_len (b : Bool) (t : List UInt8) : (parL b t).length ≤ t.length + 2 := by
  unfold parL
  split
  · simp
  · omega
theorem show_len {Q : List UInt8 → Prop} {nd : List Nd} : ∀ (e : Ex) (i : Int), RepE Q nd e i → (showE e).length + 10 ≤ massE e := by
  intro e
  induction e with
  | int n => intro i h; have := Lib.itoa_length_le n (by have := h.2.1; omega) h.2.2; show (Lib.itoa n).length + 10 ≤ 60; omega
  | bool b => intro i h; cases b <;> decide
  | text s => intro i h; show (34 :: (s ++ [34])).length + 10 ≤ s.length + 60; simp
  | var s => intro i h; show s.length + 10 ≤ s.length + 60; omega
  | index s a ih => rintro i ⟨x, _, _, h⟩; have := ih x h; show (s ++ 91 :: (showE a ++ [93])).length + 10 ≤ massE a + (s.length + 60); simp; omega
  | len a ih => rintro i ⟨x, _, h⟩; have := ih x h; show (108 :: 101 :: 110 :: 40 :: (showE a ++ [41])).length + 10 ≤ massE a + 60; simp; omega
  | neg a ih => rintro i ⟨x, _, h⟩; have := ih x h; have h2 := parL_len (decide (lvE a < 5)) (showE a); show (45 :: parL _ _).length + 10 ≤ massE a + 60; rw [List.length_cons]; omega
  | not a ih => rintro i ⟨x, _, h⟩; have := ih x h; have h2 := parL_len (decide (lvE a < 5)) (showE a); show (33 :: parL _ _).length + 10 ≤ massE a + 60; rw [List.length_cons]; omega
  | bin s a b iha ihb =>
    rintro i ⟨x, y, _, _, h3, h4⟩
    have h1 := iha x h3
    have h2 := ihb y h4
    have h5 := parL_len (decide (lvE a < leftL (lvl s))) (showE a)
    have h6 := parL_len (decide (lvE b < lvl s + 1)) (showE b)
    show (parL _ _ ++ (s ++ parL _ _)).length + 10 ≤ massE a + massE b + (s.length + 60)
    rw [List.length_append, List.length_append]
    omega
/-- A node in memory. -/
structure NodeR (w : World) (b o : Nat) (k n : Int) (s : List UInt8) (l : List Int) (ln : Int) (a : Option Addr) (c : Nat) : Prop where
  c0 : w.cell? ⟨b, o, none⟩ = some (.int .i64 k)
  c1 : w.cell? ⟨b, o + 1, none⟩ = some (.int .i64 ln)
  c2 : w.cell? ⟨b, o + 2, none⟩ = some (.int .i64 n)
  c3 : w.cell? ⟨b, o + 3, none⟩ = some (.string (ofL s))
  c4 : w.cell? ⟨b, o + 4, none⟩ = some (.slice a l.length c)
  ro : RdI w a l
theorem TreeR.node {B : Nat} {w : World} {A A' : Option Addr} {nd : List Nd} {fs : List Fnc} (h : TreeR B w A A' nd fs) {i k n : Int} {s : List UInt8} {l : List Int} (ha : At nd i k n s l) :
    ∃ (j b off : Nat) (ln : Int) (a : Option Addr) (c : Nat), i = (j : Int) ∧ j < nd.length ∧ A = some ⟨b, off, none⟩ ∧ NodeR w b (off + j * 5) k n s l ln a c := by
  obtain ⟨j, ln, h1, h2⟩ := ha
  obtain ⟨hj, h3⟩ := List.getElem?_eq_some_iff.1 h2
  obtain ⟨b, off, hA, hc⟩ := h.nodeAt (by omega)
  obtain ⟨a, c, c0, c1, c2, c3, c4, c5⟩ := hc j hj
  rw [h3] at c0 c1 c2 c3 c4 c5
  exact ⟨j, b, off, ln, a, c, h1, hj, hA, ⟨c0, c1, c2, c3, c4, c5⟩⟩
theorem NodeR.keep {w w' : World} {b o : Nat} {k n : Int} {s : List UInt8} {l : List Int} {ln : Int} {a : Option Addr} {c : Nat} (h : NodeR w b o k n s l ln a c) (q : Keeps (fun _ => False) w w') : NodeR w' b o k n s l ln a c :=
  ⟨(q.cell (cell_ltk h.c0) (fun h => h)).trans h.c0, (q.cell (cell_ltk h.c1) (fun h => h)).trans h.c1, (q.cell (cell_ltk h.c2) (fun h => h)).trans h.c2, (q.cell (cell_ltk h.c3) (fun h => h)).trans h.c3, (q.cell (cell_ltk h.c4) (fun h => h)).trans h.c4, h.ro.keep q (fun _ _ _ _ h => h)⟩
theorem RdI.get {w : World} {a : Option Addr} {l : List Int} (h : RdI w a l) {k : Nat} (hk : k < l.length) {x : Int} (hx : l[k]? = some x) : ∃ b off, a = some ⟨b, off, none⟩ ∧ w.cell? ⟨b, off + k, none⟩ = some (.int .i64 x) := by
  obtain ⟨b, off, e, hc⟩ := h (by omega)
  refine ⟨b, off, e, ?_⟩
  rw [hc k hk, List.getD, hx]
  rfl
/-- What the walks of texts want of the world. -/
structure ShW (w : World) : Prop where
  pow : Lib.TabIs Tryd.prog w "internal/strconv.uint64pow10" .u64 Lib.pow10Tab
  lo : ∀ p, Tryd.prog.globalNamed "internal/strconv.uint64pow10" = some p → p < w.heap.size
theorem ShW.keep {w w' : World} (h : ShW w) (hk : Keeps (fun _ => False) w w') : ShW w' := by
  obtain ⟨h1, h2⟩ := h
  refine ⟨?_, fun p hp => Nat.lt_of_lt_of_le (h2 p hp) hk.size⟩
  unfold Lib.TabIs World.var? at *
  cases hg : Tryd.prog.globalNamed "internal/strconv.uint64pow10" with
  | none => rw [hg] at h1; cases h1
  | some p =>
    rw [hg] at h1
    simp only [Option.bind_some] at h1 ⊢
    rw [hk.block p (h2 p hg) (fun h => h)]
    exact h1
shelf_lay LaysM.n171 Nm 171 at Tryd as laysItoa
theorem below_grow (w : World) (k : Nat) (os : Array Obj) : Below w.heap.size w (Sort.grow (w.drewN k) os) := by
  have h1 : ∀ k, (w.drewN k).heap = w.heap ∧ (w.drewN k).os = w.os ∧ (w.drewN k).tape = w.tape ∧ (w.drewN k).output = w.output := by
    intro k
    induction k with
    | zero => exact ⟨rfl, rfl, rfl, rfl⟩
    | succ k ih => exact ih
  obtain ⟨e1, e2, e3, e4⟩ := h1 k
  refine ⟨e2, e3, e4, by rw [Sort.size_grow, e1]; omega, fun j hj => ?_⟩
  rw [Sort.heap_grow_old _ os (by rw [e1]; exact hj), e1]
theorem itoa_any (n : Int) (h0 : 0 ≤ n) (h1 : n ≤ 9223372036854775807) (w : World) (hw : ShW w) :
    Calls Tryd.prog 32 #[.int .i64 n] w fun e w' => e = .returned (.string (ofL (Lib.itoa n))) ∧ Keeps (fun _ => False) w w' :=
  (Any.strconv_Itoa laysItoa n (by omega) h1 w hw.pow).mono fun e w' ⟨he, k, os, hw⟩ => ⟨he, by rw [hw]; exact Keeps.ofBelow (below_grow w k os)⟩
end Go.Proofs.YtgelggdgbmldiaaDoor

namespace Go.Proofs.YtgelggdgbmldiaaDoor
open Go Go.RowKit Go.Shelf
set_option linter.unusedVariables false
set_option linter.unusedSimpArgs false
/-- How firmly a node holds. -/
def levK (k : Int) (s : List UInt8) : Nat := if k = 7 ∨ k = 8 then 5 else if k = 9 then lvl s else 6
theorem lev_of {Q : List UInt8 → Prop} {nd : List Nd} : ∀ (e : Ex) (i : Int), RepE Q nd e i → ∃ k n s l, At nd i k n s l ∧ levK k s = lvE e ∧ (k = 9 → s ∈ signs11) := by
  intro e i h
  cases e with
  | int n => exact ⟨_, _, _, _, h.1, rfl, fun h => absurd h (by decide)⟩
  | bool b => exact ⟨_, _, _, _, h, rfl, fun h => absurd h (by decide)⟩
  | text s => exact ⟨_, _, _, _, h.1, rfl, fun h => absurd h (by decide)⟩
  | var s => exact ⟨_, _, _, _, h.1, rfl, fun h => absurd h (by decide)⟩
  | index s a => obtain ⟨x, h1, _⟩ := h; exact ⟨_, _, _, _, h1, rfl, fun h => absurd h (by decide)⟩
  | len a => obtain ⟨x, h1, _⟩ := h; exact ⟨_, _, _, _, h1, rfl, fun h => absurd h (by decide)⟩
  | neg a => obtain ⟨x, h1, _⟩ := h; exact ⟨_, _, _, _, h1, rfl, fun h => absurd h (by decide)⟩
  | not a => obtain ⟨x, h1, _⟩ := h; exact ⟨_, _, _, _, h1, rfl, fun h => absurd h (by decide)⟩
  | bin s a b => obtain ⟨x, y, h1, h2, _⟩ := h; exact ⟨_, _, _, _, h1, rfl, fun _ => h2⟩
section
variable (k ln n : Int) (sv : ByteArray) (a : Option Addr) (len c : Nat) (w : World)
end
end Go.Proofs.YtgelggdgbmldiaaDoor

namespace Go.Proofs.YtgelggdgbmldiaaDoor
open Go Go.RowKit Go.Shelf
set_option linter.unusedVariables false
set_option linter.unusedSimpArgs false
theorem bap_list (a b : ByteArray) : (a ++ b).data.toList = a.data.toList ++ b.data.toList := by simp [ByteArray.data_append]
theorem of_list {b : ByteArray} {l : List UInt8} (h : b.data.toList = l) : b = ofL l := by rw [← h]; rfl
/-- Expressions, commas between. -/
def joinC : List Ex → List UInt8
  | [] => []
  | [e] => showE e
  | e :: f :: l => showE e ++ 44 :: joinC (f :: l)
def showR : Rt → List UInt8
  | .ex e => showE e
  | .input => [105, 110, 112, 117, 116]
  | .new a => 110 :: 101 :: 119 :: 40 :: (showE a ++ [41])
  | .call s l => s ++ 40 :: (joinC l ++ [41])
end Go.Proofs.YtgelggdgbmldiaaDoor

namespace Go.Proofs.YtgelggdgbmldiaaDoor
open Go Go.RowKit Go.Shelf
set_option linter.unusedVariables false
set_option linter.unusedSimpArgs false
def totC : List Ex → Nat
  | [] => 0
  | e :: l => ((showE e).length + 1) + totC l
theorem joinC_le : ∀ l : List Ex, (joinC l).length ≤ totC l
  | [] => Nat.zero_le _
  | [e] => by show (showE e).length ≤ ((showE e).length + 1) + 0; omega
  | e :: f :: l => by
    have := joinC_le (f :: l)
    show (showE e ++ 44 :: joinC (f :: l)).length ≤ ((showE e).length + 1) + totC (f :: l)
    rw [List.length_append, List.length_cons]
    omega
theorem repEs_at {Q : List UInt8 → Prop} {nd : List Nd} : ∀ {l : List Ex} {xs : List Int}, RepEs Q nd l xs → xs.length = l.length ∧ ∀ i (hi : i < l.length), ∃ x, xs[i]? = some x ∧ RepE Q nd l[i] x
  | [], [], _ => ⟨rfl, fun i hi => absurd hi (Nat.not_lt_zero _)⟩
  | e :: l, x :: xs, h => by
    obtain ⟨h1, h2⟩ := repEs_at h.2
    refine ⟨by rw [List.length_cons, List.length_cons, h1], fun i hi => ?_⟩
    cases i with
    | zero => exact ⟨x, rfl, h.1⟩
    | succ i => exact h2 i (by simpa using hi)
  | [], _ :: _, h => h.elim
  | _ :: _, [], h => h.elim
end Go.Proofs.YtgelggdgbmldiaaDoor

namespace Go.Proofs.YtgelggdgbmldiaaDoor
open Go Go.RowKit Go.Shelf
set_option linter.unusedVariables false
set_option linter.unusedSimpArgs false
theorem tot_mass {Q : List UInt8 → Prop} {nd : List Nd} : ∀ (l : List Ex) (xs : List Int), RepEs Q nd l xs → totC l ≤ massEs l
  | [], _, _ => Nat.zero_le _
  | e :: l, x :: xs, h => by
    have h1 := show_len e x h.1
    have h2 := tot_mass l xs h.2
    show ((showE e).length + 1) + totC l ≤ massE e + massEs l
    omega
  | _ :: _, [], h => h.elim
theorem mass_mem : ∀ (l : List Ex) (e : Ex), e ∈ l → massE e ≤ massEs l
  | [], e, h => by cases h
  | f :: l, e, h => by
    show massE e ≤ massE f + massEs l
    rcases List.mem_cons.1 h with rfl | h
    · omega
    · have := mass_mem l e h; omega
theorem showR_len {Q : List UInt8 → Prop} {nd : List Nd} (r : Rt) (i : Int) (h : RepR Q nd r i) : (showR r).length + 10 ≤ massR r := by
  cases r with
  | ex e => exact show_len e i h
  | input => decide
  | new a =>
    obtain ⟨x, _, h3⟩ := h
    have := show_len a x h3
    show (110 :: 101 :: 119 :: 40 :: (showE a ++ [41])).length + 10 ≤ massE a + 60
    simp
    omega
  | call s l =>
    obtain ⟨xs, _, _, h3⟩ := h
    have h4 := tot_mass l xs h3
    have h5 := joinC_le l
    show (s ++ 40 :: (joinC l ++ [41])).length + 10 ≤ massEs l + (s.length + 60)
    simp
    omega
mutual
def showS : Stm → List UInt8
  | .lt s r => [108, 101, 116, 32] ++ s ++ [61] ++ showR r ++ [59, 10]
  | .set s r => s ++ [61] ++ showR r ++ [59, 10]
  | .put s a b => s ++ [91] ++ showE a ++ [93, 61] ++ showE b ++ [59, 10]
  | .doo s l => showR (.call s l) ++ [59, 10]
  | .print a => [112, 114, 105, 110, 116, 32] ++ showE a ++ [59, 10]
  | .ret0 => [114, 101, 116, 117, 114, 110, 59, 10]
  | .ret1 a => [114, 101, 116, 117, 114, 110, 32] ++ showE a ++ [59, 10]
  | .ifs c a => [105, 102, 32] ++ showE c ++ ([123, 10] ++ showB a ++ [125, 10])
  | .ifelse c a b => [105, 102, 32] ++ showE c ++ ([123, 10] ++ showB a ++ [125, 10]) ++ [101, 108, 115, 101] ++ ([123, 10] ++ showB b ++ [125, 10])
  | .whil c a => [119, 104, 105, 108, 101, 32] ++ showE c ++ ([123, 10] ++ showB a ++ [125, 10])
def showB : Bl → List UInt8
  | .nil => []
  | .cons s b => showS s ++ showB b
end
def showK (b : Bl) : List UInt8 := [123, 10] ++ showB b ++ [125, 10]
mutual
theorem showS_len {Q : List UInt8 → Prop} {nd : List Nd} : ∀ (s : Stm) (i : Int), RepS Q nd s i → (showS s).length + 10 ≤ massS s
  | .lt s r, i, h => by unfold RepS at h; obtain ⟨x, _, _, h3⟩ := h; have := showR_len r x h3; unfold showS massS; simp; omega
  | .set s r, i, h => by unfold RepS at h; obtain ⟨x, _, _, h3⟩ := h; have := showR_len r x h3; unfold showS massS; simp; omega
  | .put s a b, i, h => by unfold RepS at h; obtain ⟨x, y, _, _, h3, h4⟩ := h; have := show_len a x h3; have := show_len b y h4; unfold showS massS; simp; omega
  | .doo s l, i, h => by unfold RepS at h; obtain ⟨x, _, h3⟩ := h; have := showR_len _ x h3; unfold showS massS; rw [List.length_append]; have e : massR (.call s l) = massEs l + (s.length + 60) := rfl; have e2 : ([59, 10] : List UInt8).length = 2 := rfl; omega
  | .print a, i, h => by unfold RepS at h; obtain ⟨x, _, h3⟩ := h; have := show_len a x h3; unfold showS massS; simp; omega
  | .ret0, i, h => by unfold showS massS; decide
  | .ret1 a, i, h => by unfold RepS at h; obtain ⟨x, _, h3⟩ := h; have := show_len a x h3; unfold showS massS; simp; omega
  | .ifs c a, i, h => by unfold RepS at h; obtain ⟨x, y, ys, _, h3, _, h4⟩ := h; have := show_len c x h3; have := showB_len a ys h4; unfold showS massS; simp; omega
  | .ifelse c a b, i, h => by unfold RepS at h; obtain ⟨x, y, ys, z, zs, _, h3, _, h4, _, h5⟩ := h; have := show_len c x h3; have := showB_len a ys h4; have := showB_len b zs h5; unfold showS massS; simp; omega
  | .whil c a, i, h => by unfold RepS at h; obtain ⟨x, y, ys, _, h3, _, h4⟩ := h; have := show_len c x h3; have := showB_len a ys h4; unfold showS massS; simp; omega
theorem showB_len {Q : List UInt8 → Prop} {nd : List Nd} : ∀ (b : Bl) (xs : List Int), RepB Q nd b xs → (showB b).length ≤ massB b
  | .nil, [], _ => by unfold showB massB; decide
  | .cons s b, x :: xs, h => by unfold RepB at h; have h1 := showS_len s x h.1; have h2 := showB_len b xs h.2; unfold showB massB; rw [List.length_append]; omega
  | .nil, _ :: _, h => by unfold RepB at h; exact h.elim
  | .cons _ _, [], h => by unfold RepB at h; exact h.elim
end
end Go.Proofs.YtgelggdgbmldiaaDoor

namespace Go.Proofs.YtgelggdgbmldiaaDoor
open Go Go.RowKit Go.Shelf
set_option linter.unusedVariables false
set_option linter.unusedSimpArgs false
def blL : Bl → List Stm
  | .nil => []
  | .cons s b => s :: blL b
theorem repB_at {Q : List UInt8 → Prop} {nd : List Nd} : ∀ (b : Bl) (ys : List Int), RepB Q nd b ys → ys.length = (blL b).length ∧ ∀ i (hi : i < (blL b).length), ∃ x, ys[i]? = some x ∧ RepS Q nd (blL b)[i] x
  | .nil, [], _ => ⟨rfl, fun i hi => absurd hi (Nat.not_lt_zero _)⟩
  | .cons s b, x :: xs, h => by
    unfold RepB at h
    obtain ⟨h1, h2⟩ := repB_at b xs h.2
    refine ⟨by show (x :: xs).length = (s :: blL b).length; rw [List.length_cons, List.length_cons, h1], fun i hi => ?_⟩
    cases i with
    | zero => exact ⟨x, rfl, h.1⟩
    | succ i => exact h2 i (by simpa [blL] using hi)
  | .nil, _ :: _, h => by unfold RepB at h; exact h.elim
  | .cons _ _, [], h => by unfold RepB at h; exact h.elim
theorem showB_flat : ∀ b : Bl, showB b = (blL b).flatMap showS
  | .nil => by unfold showB; rfl
  | .cons s b => by unfold showB; rw [showB_flat b]; rfl
theorem flat_take {l : List Stm} {i : Nat} (h : i < l.length) : (l.take (i + 1)).flatMap showS = (l.take i).flatMap showS ++ showS l[i] := by
  rw [List.take_succ_eq_append_getElem h, List.flatMap_append]
  simp
theorem flat_le (l : List Stm) (i : Nat) : ((l.take i).flatMap showS).length ≤ (l.flatMap showS).length := by
  have : l.flatMap showS = (l.take i).flatMap showS ++ (l.drop i).flatMap showS := by rw [← List.flatMap_append, List.take_append_drop]
  rw [this, List.length_append]
  omega
end Go.Proofs.YtgelggdgbmldiaaDoor

namespace Go.Proofs.YtgelggdgbmldiaaDoor
open Go Go.RowKit Go.Shelf
set_option linter.unusedVariables false
set_option linter.unusedSimpArgs false
theorem RdI.up {w w' : World} {a : Option Addr} {l : List Int} (h : RdI w a l) (k : Keeps (fun _ => False) w w') : RdI w' a l := h.keep k (fun _ _ _ _ h => h)
theorem RdG.up {w w' : World} {a : Option Addr} {l : List Value} (h : RdG w a l) (k : Keeps (fun _ => False) w w') : RdG w' a l := h.keep k (fun _ _ _ _ h => h)
set_option maxRecDepth 100000 in
set_option maxHeartbeats 16000000 in
theorem ints_any (a b : Option Addr) (c d n : Nat) (l : List Int) (hn : n = l.length) (hl : n ≤ 1000000) (w : World) (ha : RdI w a l) (hb : RdI w b l) : Calls Tryd.prog 27 #[.slice a n c, .slice b n d] w fun e w' => e = .returned (.bool true) ∧ Keeps (fun _ => False) w w' := by
  have HA := Lib.hid ha
  have HB := Lib.hid hb
  have HN := Lib.hid hn
  clear ha hb hn
  go_enter Tryd.func27, Tryd.ntmps27
  go_wp2_with fail
  go_loopg [5] (n + 1) (fun k s5 wr => ∃ i : Nat, s5 = .int .i64 i ∧ i + k = n + 1 ∧ i ≤ n ∧ Keeps (fun _ => False) w wr)
  case atStart => exact ⟨0, rfl, by omega, by omega, Keeps.refl _ _⟩
  case round =>
    obtain ⟨i, rfl, hik, hle, kr⟩ := hrel
    have KR := Lib.hid kr
    have HIK := Lib.hid hik
    by_cases hin : i < n
    · have hinI : (i : Int) < (n : Int) := by omega
      have hd : decide ((i : Int) < (n : Int)) = true := decide_eq_true hinI
      have hi0 : (0 : Int) ≤ (i : Int) := by omega
      have hw := IntWalk.i64_in ((i : Int) + 1) (by omega)
      obtain ⟨b1, o1, rfl, h1⟩ := HA.out (by rw [← HN.out]; omega)
      obtain ⟨b2, o2, rfl, h2⟩ := HB.out (by rw [← HN.out]; omega)
      have c1 := (kr.cell (cell_ltk (h1 i (by rw [← HN.out]; exact hin))) (fun h => h)).trans (h1 i (by rw [← HN.out]; exact hin))
      have c2 := (kr.cell (cell_ltk (h2 i (by rw [← HN.out]; exact hin))) (fun h => h)).trans (h2 i (by rw [← HN.out]; exact hin))
      generalize l.getD i 0 = z at c1 c2
      have HIN := Lib.hid hin
      clear h1 h2 kr hik hin
      go_wp2_with fail
      go_quiet (fail)
      go_wp2_with fail
      go_roundg (gk - 1)
      case measure => go_light; have h1 := HIK.out; have h2 := HIN.out; omega
      case rel => exact ⟨i + 1, by go_num, by have h1 := HIK.out; have h2 := HIN.out; go_light; omega, by have h2 := HIN.out; go_light; omega, KR.out.trans (drew_keeps _ _) (fun _ _ h => h)⟩
    · obtain rfl : i = n := by omega
      have hinI : ¬ (i : Int) < (i : Int) := by omega
      have hd : decide ((i : Int) < (i : Int)) = false := decide_eq_false hinI
      clear hin hik kr
      go_wp2_with fail
      go_ret
      exact ⟨rfl, KR.out⟩
theorem eq_param (a b : Int) (s t : ByteArray) (w : World) : (Op.equalIn 10000 59 (.agg #[.string s, .int .i64 a]) (.agg #[.string t, .int .i64 b])).run Tryd.prog w = .ok (s.toList == t.toList && a == b) w := by
  have hS : Tryd.prog.underlying 59 = some (.struct (Tryd.prog.fieldsOf 59)) := by kernel_rfl
  have hp : Tryd.prog.stoodInHeld 59 = false := by kernel_rfl
  rw [show (10000 : Nat) = 9999 + 1 from rfl, run_equalIn_agg w 9999 59 _ _ hS hp]
  simp only [Program.fieldsOf, Tryd.underlying59]
  go_simp
  cases h1 : (a == b) <;> cases h3 : (s.toList == t.toList) <;> simp_all
theorem guard_param : Tryd.prog.eqGuardType Tryd.prog.depth 59 = false := by kernel_rfl
theorem neq_param (a b : Int) (s t : ByteArray) (w : World) : (binOp .neq 59 (.agg #[.string s, .int .i64 a]) (.agg #[.string t, .int .i64 b])).run Tryd.prog w = .ok (.bool (!(s.toList == t.toList && a == b))) w := by
  have h := run_neq_struct (P := Tryd.prog) w 59 #[.string s, .int .i64 a] #[.string t, .int .i64 b]
  rw [eq_param] at h
  exact h
end Go.Proofs.YtgelggdgbmldiaaDoor
