/-
  Layer 2: what ParseBelow asks of the nodes, as data. Written by an AI agent.
-/
import Derived.Test.YtgelggdgbmldiaaDoorPcE
import Derived.Test.YtgelggdgbmldiaaDoorLxC
namespace Go.Proofs.YtgelggdgbmldiaaDoor
set_option linter.unusedVariables false
set_option linter.unusedSimpArgs false

theorem Fo.roots {b : Nat} {nd : List Nd} {xs : List Int} (h : Fo b nd xs) : xs.Pairwise (· < ·) ∧ ∀ x ∈ xs, ∃ j : Nat, x = ((b + j : Nat) : Int) ∧ j < nd.length := by
  induction h with
  | nil b => exact ⟨List.Pairwise.nil, fun x hx => by cases hx⟩
  | cat h1 h2 ih1 ih2 =>
    rename_i b nd nd' xs ys
    refine ⟨List.pairwise_append.mpr ⟨ih1.1, ih2.1, ?_⟩, ?_⟩
    · intro x hx y hy
      obtain ⟨j, rfl, hj⟩ := ih1.2 x hx
      obtain ⟨k, rfl, hk⟩ := ih2.2 y hy
      omega
    · intro x hx
      rw [List.length_append]
      rcases List.mem_append.mp hx with h | h
      · obtain ⟨j, e, hj⟩ := ih1.2 x h
        exact ⟨j, e, by omega⟩
      · obtain ⟨j, e, hj⟩ := ih2.2 x h
        exact ⟨nd.length + j, by rw [e]; omega, by omega⟩
  | node n h1 h2 h3 ih =>
    rename_i b nd
    refine ⟨List.pairwise_singleton _ _, ?_⟩
    intro x hx
    rw [List.mem_singleton.mp hx]
    exact ⟨nd.length, rfl, by rw [List.length_append]; exact Nat.lt_succ_self _⟩

/-- A node and what is below it. -/
def Kid (b : Nat) (nd : List Nd) (i : Nat) (n : Nd) : Prop :=
  manyK n.k n.l.length = true ∧ n.l.Pairwise (· < ·) ∧ ∀ x ∈ n.l, ∃ (j : Nat) (m : Nd), x = ((b + j : Nat) : Int) ∧ j < i ∧ nd[j]? = some m ∧ n.ln ≤ m.ln
theorem Fo.kids {b : Nat} {nd : List Nd} {xs : List Int} (h : Fo b nd xs) : ∀ i n, nd[i]? = some n → Kid b nd i n := by
  induction h with
  | nil b => intro i n hn; simp at hn
  | cat h1 h2 ih1 ih2 =>
    rename_i b nd nd' xs ys
    intro i n hn
    by_cases hi : i < nd.length
    · rw [List.getElem?_append_left hi] at hn
      obtain ⟨k1, k2, k3⟩ := ih1 i n hn
      refine ⟨k1, k2, fun x hx => ?_⟩
      obtain ⟨j, m, e, hj, hm, hl⟩ := k3 x hx
      exact ⟨j, m, e, hj, by rw [List.getElem?_append_left (by omega)]; exact hm, hl⟩
    · rw [List.getElem?_append_right (by omega)] at hn
      obtain ⟨k1, k2, k3⟩ := ih2 (i - nd.length) n hn
      refine ⟨k1, k2, fun x hx => ?_⟩
      obtain ⟨j, m, e, hj, hm, hl⟩ := k3 x hx
      exact ⟨nd.length + j, m, by rw [e]; omega, by omega, by rw [List.getElem?_append_right (by omega), Nat.add_sub_cancel_left]; exact hm, hl⟩
  | node n h1 h2 h3 ih =>
    rename_i b nd
    intro i n' hn
    by_cases hi : i < nd.length
    · rw [List.getElem?_append_left hi] at hn
      obtain ⟨k1, k2, k3⟩ := ih i n' hn
      refine ⟨k1, k2, fun x hx => ?_⟩
      obtain ⟨j, m, e, hj, hm, hl⟩ := k3 x hx
      exact ⟨j, m, e, hj, by rw [List.getElem?_append_left (by omega)]; exact hm, hl⟩
    · have hi2 : i = nd.length := by
        have := (List.getElem?_eq_some_iff.mp hn).1
        rw [List.length_append] at this
        have h1 : [n].length = 1 := rfl
        omega
      subst hi2
      rw [List.getElem?_append_right (Nat.le_refl _), Nat.sub_self] at hn
      obtain rfl : n = n' := Option.some.inj hn
      refine ⟨h3, h1.roots.1, fun x hx => ?_⟩
      obtain ⟨j, e, hj⟩ := h1.roots.2 x hx
      exact ⟨j, nd[j], e, hj, by rw [List.getElem?_append_left hj]; exact List.getElem?_eq_getElem hj, h2 _ (List.getElem_mem hj)⟩

theorem Fo.count {b : Nat} {nd : List Nd} {xs : List Int} (h : Fo b nd xs) (v : Int) : (nd.flatMap Nd.l).count v + xs.count v = if (b : Int) ≤ v ∧ v < (b : Int) + nd.length then 1 else 0 := by
  induction h with
  | nil b => rw [if_neg (by rintro ⟨h1, h2⟩; simp at h2; omega)]; rfl
  | cat h1 h2 ih1 ih2 =>
    rename_i b nd nd' xs ys
    rw [List.flatMap_append, List.count_append, List.count_append, List.length_append]
    rw [Int.natCast_add] at ih2 ⊢
    by_cases c1 : (b : Int) ≤ v ∧ v < (b : Int) + nd.length
    · rw [if_pos c1] at ih1
      rw [if_neg (by omega)] at ih2
      rw [if_pos (by omega)]
      omega
    · rw [if_neg c1] at ih1
      by_cases c2 : (b : Int) + nd.length ≤ v ∧ v < (b : Int) + nd.length + nd'.length
      · rw [if_pos c2] at ih2
        rw [if_pos (by omega)]
        omega
      · rw [if_neg c2] at ih2
        rw [if_neg (by omega)]
        omega
  | node n h1 h2 h3 ih =>
    rename_i b nd
    have hf : ([n].flatMap Nd.l) = n.l := by simp
    rw [List.flatMap_append, List.count_append, hf, ih, List.length_append]
    have h0 : [n].length = 1 := rfl
    rw [h0]
    by_cases hv : v = ((b + nd.length : Nat) : Int)
    · rw [if_neg (by omega), if_pos (by omega), hv]
      simp
    · rw [List.count_eq_zero_of_not_mem (by simpa using hv)]
      by_cases c : (b : Int) ≤ v ∧ v < (b : Int) + nd.length
      · rw [if_pos c, if_pos (by omega)]
      · rw [if_neg c, if_neg (by omega)]

theorem line_up (l : List UInt8) (a : Int) (k : Nat) : lineL l a ≤ lineL l (a + k) := by
  induction k with
  | zero => exact Nat.le_of_eq (by rw [show a + ((0 : Nat) : Int) = a by omega])
  | succ k ih =>
    rw [show a + ((k + 1 : Nat) : Int) = a + k + 1 by omega, line_next]
    omega
theorem pl_up (s : List UInt8) : ∀ (T : List Tok) (e : Nat), Pl s e T → ∀ i j, i ≤ j → j < T.length → e ≤ (T.getD i default).p ∧ (T.getD i default).p ≤ (T.getD j default).p := by
  intro T
  induction T with
  | nil => intro e h; exact absurd h (fun h => h)
  | cons t ts ih =>
    intro e h i j hij hj
    obtain ⟨h1, h2, h3, h4⟩ := h
    rcases h4 with ⟨rfl, rfl⟩ | ⟨hne, _, _, _, h8⟩
    · have : j = 0 := by simp at hj; exact hj
      subst this
      obtain rfl : i = 0 := by omega
      exact ⟨h1, Nat.le_refl _⟩
    · cases j with
      | zero =>
        obtain rfl : i = 0 := by omega
        exact ⟨h1, Nat.le_refl _⟩
      | succ j =>
        rw [List.length_cons] at hj
        cases i with
        | zero =>
          have := ih _ h8 0 j (Nat.zero_le _) (by omega)
          exact ⟨h1, by show t.p ≤ (ts.getD j default).p; omega⟩
        | succ i =>
          have := ih _ h8 i j (by omega) (by omega)
          exact ⟨by show e ≤ (ts.getD i default).p; omega, this.2⟩
theorem lexL_LnT (src : List UInt8) (h : (lexL src 0).2 = none) : LnT src (lexL src 0).1 := by
  have hp := lexL_places src src 0 0 rfl (Nat.zero_le _) (Nat.le_refl _) (by simpa using gap_nil) h
  refine ⟨List.length_pos_iff.mpr (lexL_ne src 0 h), ?_⟩
  intro i j hij hj
  obtain ⟨h1, h2⟩ := pl_up src _ 0 hp i j hij hj
  have h3 := line_up src ((((lexL src 0).1.getD i default).p : Nat) : Int) (((lexL src 0).1.getD j default).p - ((lexL src 0).1.getD i default).p)
  rwa [show ((((lexL src 0).1.getD i default).p : Nat) : Int) + (((((lexL src 0).1.getD j default).p - ((lexL src 0).1.getD i default).p : Nat)) : Int) = ((((lexL src 0).1.getD j default).p : Nat) : Int) by omega] at h3

/-- What ParseBelow asks of a tree. -/
structure BelowT (nd : List Nd) (fs : List Fnc) : Prop where
  kids : ∀ i n, nd[i]? = some n → Kid 0 nd i n
  bods : ∀ f ∈ fs, ∃ (j : Nat) (m : Nd), f.body = (j : Int) ∧ nd[j]? = some m ∧ m.k = 18
  ones : ∀ j : Nat, j < nd.length → (nd.flatMap Nd.l).count (j : Int) + (fs.map Fnc.body).count (j : Int) = 1
  many : nd.length ≤ 300
  fns : fs.length ≤ 6

theorem belowT_of (N : Nat) (src : List UInt8) (nd : List Nd) (fs : List Fnc) (h : allP N src = some (.inr (nd, fs))) : BelowT nd fs := by
  unfold allP at h
  split at h
  · cases h
  split at h
  · cases h
  rename_i hn
  have hL := lexL_LnT src hn
  cases hr : fnsR src (lexL src 0).1 N N [] ⟨0, 0, 0, [], 0⟩ with
  | none => rw [hr] at h; cases h
  | some r =>
    rw [hr] at h
    obtain ⟨l, s⟩ := r
    have h1 : treeP l s = .inr (nd, fs) := Option.some.inj h
    obtain ⟨g, hb⟩ := fns_p hL (N := N) (s0 := ⟨0, 0, 0, [], 0⟩) N [] ⟨0, 0, 0, [], 0⟩ (G.self hL.1) (fun f hf => by cases hf) l s hr
    unfold treeP at h1
    split at h1
    · split at h1
      · cases h1
      · rename_i hc
        cases h1
        simp only [Bool.or_eq_true, decide_eq_true_eq, not_or] at hc
        obtain ⟨_, _, nd', hnd, hF, _⟩ := g
        have hnd : s.nd = nd' := hnd
        subst hnd
        have hF : Fo 0 s.nd (fs.map Fnc.body) := hF
        refine ⟨hF.kids, ?_, ?_, by omega, by omega⟩
        · intro f hf
          obtain ⟨b1, b2⟩ := hb f hf
          obtain ⟨j, e, hj⟩ := hF.roots.2 f.body (List.mem_map_of_mem hf)
          rw [Nat.zero_add] at e
          refine ⟨j, s.nd[j], e, List.getElem?_eq_getElem hj, ?_⟩
          rw [e, Int.toNat_natCast, List.getD_eq_getElem?_getD, List.getElem?_eq_getElem hj] at b1
          exact b1
        · intro j hj
          have := hF.count (j : Int)
          rw [if_pos (by omega)] at this
          exact this
    · cases h1
end Go.Proofs.YtgelggdgbmldiaaDoor
