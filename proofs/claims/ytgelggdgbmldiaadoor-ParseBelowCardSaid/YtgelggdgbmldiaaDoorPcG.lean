/-
  Layer 2: what ParseBelow counts, as data; a source cut short. Written by an AI agent.
-/
import Derived.Test.YtgelggdgbmldiaaDoorPcF
import Derived.Test.YtgelggdgbmldiaaDoorPcC
import Derived.Test.YtgelggdgbmldiaaDoorPbD
import Derived.Deep.OwnRows
import Derived.Laws.OwnMore
namespace Go.Proofs.YtgelggdgbmldiaaDoor
open Go Go.RowKit Go.Shelf
set_option linter.unusedVariables false
set_option linter.unusedSimpArgs false

def tmV (m : Nat) (acc : List Int) : List Value := (List.range m).map fun (j : Nat) => .int .i64 ((acc.count (j : Int) : Nat) : Int)
theorem tmV_at {m : Nat} {acc : List Int} {j : Nat} (h : j < m) : (tmV m acc)[j]? = some (.int .i64 ((acc.count (j : Int) : Nat) : Int)) := by
  unfold tmV
  rw [List.getElem?_map, List.getElem?_range h]
  rfl
theorem tmV_len (m : Nat) (acc : List Int) : (tmV m acc).length = m := by unfold tmV; rw [List.length_map, List.length_range]
theorem tmV_set {m : Nat} {acc : List Int} {j : Nat} (h : j < m) : (tmV m acc).set j (.int .i64 ((acc.count (j : Int) : Nat) + 1 : Int)) = tmV m (acc ++ [(j : Int)]) := by
  apply List.ext_getElem?
  intro k
  by_cases hk : k < m
  · rw [tmV_at hk]
    by_cases e : j = k
    · subst e
      rw [List.getElem?_set_self (by rw [tmV_len]; exact h), List.count_append]
      simp
    · rw [List.getElem?_set_ne e, tmV_at hk, List.count_append]
      rw [List.count_eq_zero_of_not_mem (l := [(j : Int)]) (by simp; omega)]
      rfl
  · rw [List.getElem?_eq_none (by rw [List.length_set, tmV_len]; omega), List.getElem?_eq_none (by rw [tmV_len]; omega)]
theorem tmV_new (m : Nat) : madeCells #[Value.int .i64 0] m = (tmV m []).toArray := by
  apply Array.ext'
  rw [toList_madeCells_one]
  unfold tmV
  apply List.ext_getElem?
  intro k
  by_cases hk : k < m
  · simp [hk]
  · simp [hk]
theorem flat_next {nd : List Nd} {i : Nat} {n : Nd} (h : nd[i]? = some n) : (nd.take (i + 1)).flatMap Nd.l = (nd.take i).flatMap Nd.l ++ n.l := by
  obtain ⟨hi, e⟩ := List.getElem?_eq_some_iff.mp h
  rw [List.take_add_one, h, List.flatMap_append]
  simp

theorem take_next {l : List Int} {q : Nat} {x : Int} (h : l.getD q 0 = x) (hq : q < l.length) : l.take q ++ [x] = l.take (q + 1) := by
  rw [List.take_add_one, List.getElem?_eq_getElem hq]
  rw [List.getD_eq_getElem?_getD, List.getElem?_eq_getElem hq] at h
  have h : l[q] = x := h
  rw [h]
  rfl
theorem acc_le {nd : List Nd} {fs : List Fnc} (H : BelowT nd fs) {i q j : Nat} {n : Nd} (h : nd[i]? = some n) (hj : j < nd.length) : ((nd.take i).flatMap Nd.l ++ n.l.take q).count (j : Int) ≤ 1 := by
  have h1 := H.ones j hj
  have h2 : nd.flatMap Nd.l = ((nd.take i).flatMap Nd.l ++ n.l) ++ (nd.drop (i + 1)).flatMap Nd.l := by
    rw [← flat_next h, ← List.flatMap_append, List.take_append_drop]
  rw [h2, List.count_append, List.count_append] at h1
  rw [List.count_append]
  have h3 := (List.take_sublist q n.l).count_le (j : Int)
  omega
theorem asc_le : ∀ (l : List Int) (lo hi : Int), l.Pairwise (· < ·) → (∀ x ∈ l, lo ≤ x ∧ x < hi) → l.length ≤ (hi - lo).toNat := by
  intro l
  induction l with
  | nil => intro lo hi _ _; exact Nat.zero_le _
  | cons a l ih =>
    intro lo hi hp h
    rw [List.pairwise_cons] at hp
    have ha := h a List.mem_cons_self
    have h1 := ih (a + 1) hi hp.2 (fun x hx => ⟨by have := hp.1 x hx; omega, (h x (List.mem_cons_of_mem _ hx)).2⟩)
    rw [List.length_cons]
    omega
theorem Kid.at {nd : List Nd} {i : Nat} {n : Nd} (h : Kid 0 nd i n) {q : Nat} (hq : q < n.l.length) : ∃ (j : Nat) (mm : Nd), n.l.getD q 0 = (j : Int) ∧ j < i ∧ nd[j]? = some mm ∧ n.ln ≤ mm.ln := by
  obtain ⟨j, mm, e, hj, hm, hl⟩ := h.2.2 n.l[q] (List.getElem_mem hq)
  refine ⟨j, mm, ?_, hj, hm, hl⟩
  rw [List.getD_eq_getElem?_getD, List.getElem?_eq_getElem hq, ← Nat.zero_add j]
  exact e
theorem Kid.len {nd : List Nd} {i : Nat} {n : Nd} (h : Kid 0 nd i n) : n.l.length ≤ i := by
  have := asc_le n.l 0 i h.2.1 (fun x hx => by
    obtain ⟨j, mm, e, hj, hm, hl⟩ := h.2.2 x hx
    omega)
  omega
theorem Kid.asc {nd : List Nd} {i : Nat} {n : Nd} (h : Kid 0 nd i n) {q : Nat} (hq : q + 1 < n.l.length) : n.l.getD q 0 < n.l.getD (q + 1) 0 := by
  have := List.pairwise_iff_getElem.mp h.2.1 q (q + 1) (by omega) hq (Nat.lt_succ_self q)
  rw [List.getD_eq_getElem?_getD, List.getElem?_eq_getElem (by omega), List.getD_eq_getElem?_getD, List.getElem?_eq_getElem hq]
  exact this
theorem many_cases {k : Int} {n : Nat} (h : manyK k n = true) : ((k = 1 ∨ k = 2 ∨ k = 3 ∨ k = 4 ∨ k = 19) ∧ n = 0) ∨ ((k = 5 ∨ k = 6 ∨ k = 7 ∨ k = 8 ∨ k = 10 ∨ k = 11 ∨ k = 13 ∨ k = 14 ∨ k = 20) ∧ n = 1) ∨
  ((k = 9 ∨ k = 12 ∨ k = 16) ∧ n = 2) ∨ (k = 15 ∧ (n = 2 ∨ n = 3)) ∨ (k = 17 ∧ n ≤ 1) ∨ (k = 18 ∨ k = 21) := by
  unfold manyK at h
  simp only [Bool.or_eq_true, Bool.and_eq_true, decide_eq_true_eq] at h
  rcases h with ((((h | h) | h) | h) | h) | h
  · exact .inl h
  · exact .inr (.inl h)
  · exact .inr (.inr (.inl h))
  · exact .inr (.inr (.inr (.inl h)))
  · exact .inr (.inr (.inr (.inr (.inl h))))
  · exact .inr (.inr (.inr (.inr (.inr h))))

/-- What is refused bears an error. -/
theorem errs_ne (N : Nat) (src : List UInt8) (p er : Nat) (h : allP N src = some (.inl (p, er))) : er ≠ 0 := by
  unfold allP at h
  split at h
  · cases h; decide
  split at h
  · rename_i pe hl
    have h1 := Option.some.inj h
    have h2 : pe = (p, er) := Sum.inl.inj h1
    rw [h2] at hl
    have := (lexL_cut src 0 p er hl).2.2.2
    omega
  · rename_i hn
    cases hr : fnsR src (lexL src 0).1 N N [] ⟨0, 0, 0, [], 0⟩ with
    | none => rw [hr] at h; cases h
    | some r =>
      rw [hr] at h
      obtain ⟨l, s⟩ := r
      have h1 : treeP l s = .inl (p, er) := Option.some.inj h
      unfold treeP at h1
      split at h1
      · split at h1
        · cases h1; decide
        · cases h1
      · cases h1
        assumption

set_option maxRecDepth 100000 in
set_option maxHeartbeats 16000000 in
theorem short_any (s : ByteArray) (w : World) : Calls Tryd.prog 12 #[.string s] w fun e w' => (∃ t : ByteArray, t.size ≤ 700 ∧ e = .returned (.string t)) ∧ w' = w := by
  by_cases h : 700 < s.size
  · have hI : (700 : Int) < (s.size : Int) := by omega
    have hI2 : (700 : Int) ≤ (s.size : Int) := by omega
    have H := Lib.hid (show (s.extract 0 700).size ≤ 700 by rw [ByteArray.size_extract]; omega)
    clear h
    go_enter Tryd.func12, Tryd.ntmps12
    go_wp2
    go_ret
    exact ⟨⟨_, H.out, rfl⟩, rfl⟩
  · have hI : ¬ (700 : Int) < (s.size : Int) := by omega
    have hd : decide ((700 : Int) < (s.size : Int)) = false := decide_eq_false hI
    go_enter Tryd.func12, Tryd.ntmps12
    go_wp2
    go_ret
    exact ⟨⟨s, by omega, rfl⟩, rfl⟩
end Go.Proofs.YtgelggdgbmldiaaDoor
