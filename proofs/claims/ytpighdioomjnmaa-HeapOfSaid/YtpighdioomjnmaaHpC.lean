/-
  Layer 10: the contract of Lists. Written by an AI agent.
-/
import Derived.Test.YtpighdioomjnmaaHpB
namespace Go.Proofs.Ytpighdioomjnmaa
open Go.RowKit
set_option linter.unusedVariables false

/-- Lists in memory: a row of rows. -/
def LsIs (w : World) (S : Nat → Prop) (v : Value) (L : List (List Int)) : Prop :=
  ∃ rows : List Value, w.ownsRow 0 41 1 v L.length rows ∧ (∀ k, v.ownBlock = some k → S k) ∧
    ∀ i, i < L.length → w.ownsRow 0 3 1 (rows.getD i (.slice none 0 0)) (L.getD i []).length (iv (L.getD i [])) ∧ ∀ k, (rows.getD i (.slice none 0 0)).ownBlock = some k → S k

theorem own_lt {w : World} {base e : Nat} {v : Value} {n : Nat} {xs : List Value} (h : w.ownsRow base e 1 v n xs) {k : Nat} (hk : v.ownBlock = some k) : k < w.heap.size := (h.lt k hk).2

theorem LsIs.keep {w w' : World} {S T : Nat → Prop} {v : Value} {L : List (List Int)} (h : LsIs w S v L) (hk : Keeps T w w') (hT : ∀ k, k < w.heap.size → S k → ¬ T k) : LsIs w' S v L := by
  obtain ⟨rows, h1, h2, h3⟩ := h
  refine ⟨rows, ownsRow_keep h1 fun k hv => hk.block k (own_lt h1 hv) (hT k (own_lt h1 hv) (h2 k hv)), h2, fun i hi => ?_⟩
  obtain ⟨q1, q2⟩ := h3 i hi
  exact ⟨ownsRow_keep q1 fun k hv => hk.block k (own_lt q1 hv) (hT k (own_lt q1 hv) (q2 k hv)), q2⟩

/-- Rows of unlike types have unlike blocks. -/
theorem own_ne {w : World} {b b' : Nat} {v r : Value} {n m g g' : Nat} {xs ys : List Value} (h : w.ownsRow b 41 1 v n xs) (k : w.ownsRow b' 3 1 r m ys) (hv : v.ownBlock = some g) (hr : r.ownBlock = some g') : g' ≠ g := by
  intro e
  subst e
  rcases h.2 with ⟨rfl, _⟩ | ⟨g1, c1, cur1, rfl, _, hg1, _⟩
  · cases hv
  · rcases k.2 with ⟨rfl, _⟩ | ⟨g2, c2, cur2, rfl, _, hg2, _⟩
    · cases hr
    · have e1 : g1 = g' := by simpa [Value.ownBlock] using hv
      have e2 : g2 = g' := by simpa [Value.ownBlock] using hr
      rw [e1] at hg1
      rw [e2, hg1] at hg2
      simp at hg2

theorem own_block {w : World} {g n : Nat} {l : List Int} (h : w.heap[g]? = some (.cells (iv l).toArray 3 (0, 0))) (hn : l.length = n) (hm : n ≤ 1000) : w.ownsRow 0 3 1 (.slice (some ⟨g, 0, none⟩) n n) n (iv l) := by
  refine ⟨by rw [iv_length]; omega, .inr ⟨g, n, _, rfl, Nat.zero_le _, h, Nat.le_refl _, by unfold maxLen; omega, ?_, ?_⟩⟩
  · rw [List.size_toArray, iv_length]
    omega
  · exact List.take_of_length_le (by show (iv l).length ≤ n * 1; rw [iv_length]; omega)

theorem own_cur {w : World} {base g n cap : Nat} {xs : List Value} (h : w.ownsRow base 3 1 (.slice (some ⟨g, 0, none⟩) n cap) n xs) :
    ∃ cur : List Value, cur.length = cap ∧ w.heap[g]? = some (.cells cur.toArray 3 (0, 0)) := by
  rcases h.2 with ⟨e, _⟩ | ⟨g', cap', cur, e, _, hg, _, _, hs, _⟩
  · cases e
  · cases e
    exact ⟨cur.toList, by simpa using hs, by simpa using hg⟩

theorem ls_round {w wr w2 w4 w5 : World} {ob : Obj} {L : List (List Int)} {k m : Nat} {v v5 : Value} {rows : List Value} (hk : k < L.length) (hm : (L.getD k []).length = m) (hm2 : m ≤ 1000)
    (h1 : wr.ownsRow 0 41 1 v k rows) (h2 : ∀ j, v.ownBlock = some j → w.heap.size ≤ j)
    (h3 : ∀ i, i < k → wr.ownsRow 0 3 1 (rows.getD i (.slice none 0 0)) (L.getD i []).length (iv (L.getD i [])) ∧ ∀ j, (rows.getD i (.slice none 0 0)).ownBlock = some j → w.heap.size ≤ j)
    (kw : Keeps (fun _ => False) w wr) (k12 : Keeps (fun _ => False) wr w2) (b24 : Below w2.heap.size w2 w4) (hrow : w4.heap[w2.heap.size]? = some (.cells (iv (L.getD k [])).toArray 3 (0, 0)))
    (hown5 : w5.ownsRow 0 41 1 v5 (k + 1) (rows ++ [.slice (some ⟨w2.heap.size, 0, none⟩) m m])) (hg5 : (w4.alloc ob).grownBy w5 v.ownBlock) (hb5 : v5.ownBlock = v.ownBlock ∨ v5.ownBlock = some (w4.alloc ob).heap.size) :
    LsIs w5 (fun b => w.heap.size ≤ b) v5 (L.take (k + 1)) ∧ Keeps (fun _ => False) w w5 := by
  have s1 := kw.size
  have s2 := k12.size
  have s4 := b24.size
  have hsz : (w4.alloc ob).heap.size = w4.heap.size + 1 := by simp
  have hrl : rows.length = k := by have := h1.1; omega
  have hlt4 : w2.heap.size < w4.heap.size := by
    rcases Nat.lt_or_ge w2.heap.size w4.heap.size with h | h
    · exact h
    · rw [Array.getElem?_eq_none h] at hrow
      cases hrow
  have hv4 : w4.ownsRow 0 41 1 v k rows := ownsRow_keep h1 fun j hj => (b24.block j (by have := own_lt h1 hj; omega)).trans (k12.block j (own_lt h1 hj) (fun h => h))
  refine ⟨⟨rows ++ [.slice (some ⟨w2.heap.size, 0, none⟩) m m], ?_, fun j hj => ?_, fun i hi => ?_⟩, ?_⟩
  · rw [show (L.take (k + 1)).length = k + 1 by simp; omega]
    exact hown5
  · rcases hb5 with e | e
    · exact h2 j (e.symm.trans hj)
    · rw [e] at hj
      have := Option.some.inj hj
      show w.heap.size ≤ j
      omega
  · have hi' : i < k + 1 := by simp at hi; omega
    have eL : (L.take (k + 1)).getD i [] = L.getD i [] := by simp [List.getD_eq_getElem?_getD, hi']
    rw [eL]
    by_cases hik : i < k
    · have er : (rows ++ [Value.slice (some ⟨w2.heap.size, 0, none⟩) m m]).getD i (.slice none 0 0) = rows.getD i (.slice none 0 0) := by
        simp [List.getD_eq_getElem?_getD, List.getElem?_append_left (show i < rows.length by omega)]
      rw [er]
      obtain ⟨q1, q2⟩ := h3 i hik
      refine ⟨ownsRow_keep q1 fun j hj => ?_, q2⟩
      have hjl := own_lt q1 hj
      have q4 : w4.ownsRow 0 3 1 (rows.getD i (.slice none 0 0)) (L.getD i []).length (iv (L.getD i [])) := ownsRow_keep q1 fun j hj => (b24.block j (by have := own_lt q1 hj; omega)).trans (k12.block j (own_lt q1 hj) (fun h => h))
      refine (hg5.block j (by omega) fun e => own_ne hv4 q4 e.symm hj rfl).trans ?_
      rw [Below.heap_alloc w4 ob j (by omega)]
      exact (b24.block j (by omega)).trans (k12.block j hjl (fun h => h))
    · obtain rfl : i = k := by omega
      have er : (rows ++ [Value.slice (some ⟨w2.heap.size, 0, none⟩) m m]).getD i (.slice none 0 0) = .slice (some ⟨w2.heap.size, 0, none⟩) m m := by
        rw [List.getD_eq_getElem?_getD, ← hrl, List.getElem?_concat_length]
        rfl
      rw [er, hm]
      have q4 := own_block hrow hm hm2
      refine ⟨ownsRow_keep q4 fun j hj => ?_, fun j hj => ?_⟩
      · refine (hg5.block j (by have := own_lt q4 hj; omega) fun e => own_ne hv4 q4 e.symm hj rfl).trans ?_
        exact Below.heap_alloc w4 ob j (own_lt q4 hj)
      · have : w2.heap.size = j := by simpa [Value.ownBlock] using hj
        show w.heap.size ≤ j
        omega
  · have k24 : Keeps (fun _ => False) w2 w4 := Keeps.ofBelow b24
    have k4 : Keeps (fun _ => False) w w4 := (kw.trans k12 (fun _ _ h => h)).trans k24 (fun _ _ h => h)
    exact (k4.alloc ob).grown hg5 fun j hj hlt => absurd (h2 j hj) (by omega)

theorem flat_at (L : List (List Int)) (i j : Nat) (hi : i < L.length) (hj : j < (L.getD i []).length) : (L.take i).flatten.length + j < L.flatten.length ∧ L.flatten.getD ((L.take i).flatten.length + j) 0 = (L.getD i []).getD j 0 := by
  have e : L.flatten = (L.take i).flatten ++ ((L.getD i []) ++ (L.drop (i + 1)).flatten) := by
    have h1 : L = L.take i ++ (L.getD i [] :: L.drop (i + 1)) := by
      rw [List.getD_eq_getElem?_getD, List.getElem?_eq_getElem hi, Option.getD_some]
      exact (List.take_append_drop i L).symm.trans (by rw [List.drop_eq_getElem_cons hi])
    conv => lhs; rw [h1]
    rw [List.flatten_append, List.flatten_cons]
  constructor
  · rw [e]
    simp only [List.length_append]
    omega
  · rw [e, List.getD_eq_getElem?_getD, List.getElem?_append_right (by omega), Nat.add_sub_cancel_left, List.getElem?_append_left hj, ← List.getD_eq_getElem?_getD]

/-- The numbers of a list, where list's piece lies. -/
theorem rd_list {w : World} {S : Nat → Prop} {p : Nat} {vc ve : Value} {L : List (List Int)} (H : HeapIs w S p vc ve L.flatten (ends L)) {i g : Nat} (hi : i < L.length) (hv : vc.ownBlock = some g) :
    ∀ j, j < (L.getD i []).length → w.cell? ⟨g, (L.take i).flatten.length + j, none⟩ = some (.int .i64 ((L.getD i []).getD j 0)) := by
  intro j hj
  obtain ⟨h1, h2⟩ := flat_at L i j hi hj
  have oc := H.oc
  rcases oc.2 with ⟨rfl, _⟩ | ⟨g1, cap, cur, rfl, _⟩
  · cases hv
  · have e1 : g1 = g := by simpa [Value.ownBlock] using hv
    rw [e1] at oc
    rw [oc.cellAt _ (by omega), iv_at h1, h2]

end Go.Proofs.Ytpighdioomjnmaa
