/-
  Layer 14: what Puts make of rows of things: what is told of a time was put last. Written by an AI agent.
-/
import Derived.Test.YtpighdioomjnmabKpQ
namespace Go.Proofs.Ytpighdioomjnmab
open Go.RowKit Go.Shelf
set_option linter.unusedVariables false
set_option linter.unusedSimpArgs false

/-- What holds of a row behind k Puts. -/
structure Tells (n : Int) (at' xs : Nat → Int) (k : Nat) (M : List (Int × Int)) : Prop where
  len : (M.length : Int) ≤ n
  pos : 0 < k → 0 < M.length
  first : ∀ j, j < k → (M.getD 0 (0, 0)).1 ≤ at' j
  last : ∀ p ∈ M, ∃ j, j < k ∧ at' j = p.1 ∧ xs j = p.2 ∧ ∀ j', j < j' → j' < k → at' j' ≠ p.1

theorem Tells.nil {n : Int} (hn : 1 ≤ n) (at' xs : Nat → Int) : Tells n at' xs 0 [] where
  len := by simp; omega
  pos := fun h => absurd h (Nat.lt_irrefl _)
  first := fun j h => absurd h (Nat.not_lt_zero _)
  last := fun p h => by cases h

theorem getD_zero_ins {L : List (Int × Int)} {r : Nat} {a : Int × Int} (hr : r ≤ L.length) : (insK L r a).getD 0 (0, 0) = if r = 0 then a else L.getD 0 (0, 0) := by
  unfold insK
  cases r with
  | zero => simp
  | succ r =>
    cases L with
    | nil => simp at hr
    | cons b L => simp

theorem getD_zero_del {L : List (Int × Int)} {b : Nat} (hb : 1 ≤ b) : (delK L b).getD 0 (0, 0) = L.getD 0 (0, 0) := by
  unfold delK
  cases b with
  | zero => omega
  | succ b =>
    cases L with
    | nil => simp
    | cons c L => simp

theorem mem_del {L : List (Int × Int)} {b : Nat} {p : Int × Int} (h : p ∈ delK L b) : p ∈ L := by
  unfold delK at h
  rw [List.mem_append] at h
  rcases h with h | h
  · exact List.mem_of_mem_take h
  · exact List.mem_of_mem_drop h

theorem up_first {L : List (Int × Int)} (h : Up L) {i : Nat} (hi : i < L.length) : (L.getD 0 (0, 0)).1 ≤ (L.getD i (0, 0)).1 := by
  rcases Nat.eq_zero_or_pos i with rfl | h0
  · exact Int.le_refl _
  · exact Int.le_of_lt (h 0 i h0 hi)

theorem mem_set_cases {L : List (Int × Int)} {k : Nat} {a p : Int × Int} (h : p ∈ L.set k a) : p = a ∨ ∃ i, i < L.length ∧ i ≠ k ∧ L.getD i (0, 0) = p := by
  obtain ⟨i, hi, e⟩ := List.getElem_of_mem h
  rw [List.length_set] at hi
  rw [List.getElem_set] at e
  split at e
  · exact .inl e.symm
  · rename_i hne
    exact .inr ⟨i, hi, fun h => hne h.symm, by rw [getD_lt hi]; exact e⟩

theorem Tells.old {at' xs : Nat → Int} {k : Nat} {L : List (Int × Int)} (h : ∀ p ∈ L, ∃ j, j < k ∧ at' j = p.1 ∧ xs j = p.2 ∧ ∀ j', j < j' → j' < k → at' j' ≠ p.1) {p : Int × Int} (hp : p ∈ L) (hne : at' k ≠ p.1) :
    ∃ j, j < k + 1 ∧ at' j = p.1 ∧ xs j = p.2 ∧ ∀ j', j < j' → j' < k + 1 → at' j' ≠ p.1 := by
  obtain ⟨j, h1, h2, h3, h4⟩ := h p hp
  refine ⟨j, by omega, h2, h3, fun j' g1 g2 => ?_⟩
  rcases Nat.lt_or_ge j' k with h5 | h5
  · exact h4 j' g1 h5
  · obtain rfl : j' = k := by omega
    exact hne

theorem Tells.put {n : Int} {at' xs : Nat → Int} {k : Nat} {L M : List (Int × Int)} (hn : 1 ≤ n) (h : Tells n at' xs k L) (hup : Up L) (hp : PutD n L (at' k) (xs k) M) : Tells n at' xs (k + 1) M := by
  have hnew : ∃ j, j < k + 1 ∧ at' j = at' k ∧ xs j = xs k ∧ ∀ j', j < j' → j' < k + 1 → at' j' ≠ at' k := ⟨k, by omega, rfl, rfl, fun j' g1 g2 => by omega⟩
  rcases hp with ⟨i, hi, ha, rfl⟩ | ⟨r, hr, h1, h2, rfl⟩
  · have h0 : ((L.set i (at' k, xs k)).getD 0 (0, 0)).1 = (L.getD 0 (0, 0)).1 := by
      by_cases hi0 : i = 0
      · subst hi0
        rw [List.getD_eq_getElem?_getD, List.getElem?_set_self hi, ha]
        rfl
      · rw [List.getD_eq_getElem?_getD, List.getElem?_set_ne hi0, ← List.getD_eq_getElem?_getD]
    refine ⟨by rw [List.length_set]; exact h.len, fun _ => by rw [List.length_set]; omega, fun j hj => ?_, fun p hp => ?_⟩
    · rw [h0]
      rcases Nat.lt_or_ge j k with h5 | h5
      · exact h.first j h5
      · obtain rfl : j = k := by omega
        rw [← ha]
        exact up_first hup hi
    · rcases mem_set_cases hp with rfl | ⟨i', hi', hne, rfl⟩
      · exact hnew
      · refine Tells.old h.last (getD_mem hi') ?_
        rw [← ha]
        rcases Nat.lt_or_ge i i' with h5 | h5
        · have := hup i i' h5 hi'
          omega
        · have := hup i' i (by omega) hi
          omega
  · have hins : ∀ p ∈ insK L r (at' k, xs k), ∃ j, j < k + 1 ∧ at' j = p.1 ∧ xs j = p.2 ∧ ∀ j', j < j' → j' < k + 1 → at' j' ≠ p.1 := fun p hp => by
      rcases mem_ins.1 hp with rfl | hp
      · exact hnew
      · refine Tells.old h.last hp ?_
        obtain ⟨i, hi, rfl⟩ := getD_of_mem hp
        rcases Nat.lt_or_ge i r with h5 | h5
        · have := h1 i h5
          omega
        · have := h2 i h5 hi
          omega
    have hfirst : ∀ j, j < k + 1 → ((insK L r (at' k, xs k)).getD 0 (0, 0)).1 ≤ at' j := fun j hj => by
      rw [getD_zero_ins hr]
      split
      · rename_i hr0
        subst hr0
        rcases Nat.lt_or_ge j k with h5 | h5
        · have h6 := h.first j h5
          have h7 := h2 0 (Nat.le_refl _) (h.pos (by omega))
          show at' k ≤ at' j
          omega
        · obtain rfl : j = k := by omega
          exact Int.le_refl _
      · rename_i hr0
        rcases Nat.lt_or_ge j k with h5 | h5
        · exact h.first j h5
        · obtain rfl : j = k := by omega
          have := h1 0 (by omega)
          omega
    have hl := h.len
    unfold newK
    split
    · rename_i hc
      have hb := nearK_in (insK L r (at' k, xs k)) (L.length - 1)
      have hil := insK_length L r (at' k, xs k)
      have hdl := delK_length (insK L r (at' k, xs k)) (nearK (insK L r (at' k, xs k)) (L.length - 1)) (by rw [hil]; omega)
      rw [hil] at hdl
      refine ⟨by rw [hdl]; omega, fun _ => by rw [hdl]; omega, fun j hj => ?_, fun p hp => hins p (mem_del hp)⟩
      rw [getD_zero_del hb.1]
      exact hfirst j hj
    · rename_i hc
      refine ⟨by rw [insK_length]; omega, fun _ => by rw [insK_length]; omega, hfirst, hins⟩

/-- What Best tells, in one word. -/
def BestD (L : List (Int × Int)) (x b z : Int) (ok : Bool) : Prop :=
  (ok = false → ∀ t, t < L.length → x < (L.getD t (0, 0)).1) ∧ (ok = true → b ≤ x ∧ (b, z) ∈ L ∧ ∀ t, t < L.length → (L.getD t (0, 0)).1 ≤ x → (L.getD t (0, 0)).1 ≤ b)
theorem bestD_of {L : List (Int × Int)} {x : Int} {w w' : World} {e : Ending} (hup : Up L) (h : GotBest L x w e w') : ∃ (b z : Int) (ok : Bool), e = .returned (.tuple #[.int .i64 b, .int .i64 z, .bool ok]) ∧ BestD L x b z ok ∧ Keeps (fun _ => False) w w' := by
  obtain ⟨k, ⟨rfl, h0⟩ | ⟨s, hs, rfl, h1, h2⟩⟩ := h
  · exact ⟨0, 0, false, rfl, ⟨fun _ => h0, (fun h => by cases h)⟩, k⟩
  · refine ⟨_, _, true, rfl, ⟨(fun h => by cases h), fun _ => ⟨h1, getD_mem hs, fun t ht hx => ?_⟩⟩, k⟩
    rcases Nat.lt_trichotomy t s with h | rfl | h
    · exact Int.le_of_lt (hup t s h hs)
    · exact Int.le_refl _
    · have := h2 t h ht
      omega

/-- What was put last at a time, of the first m Puts. -/
def LastP (at' xs : Nat → Int) (b : Int) (m : Nat) (lv : Int) : Prop := ∀ j, j < m → at' j = b → (∀ j', j < j' → j' < m → at' j' ≠ b) → lv = xs j
theorem LastP.zero (at' xs : Nat → Int) (b lv : Int) : LastP at' xs b 0 lv := fun j h => absurd h (Nat.not_lt_zero _)
theorem LastP.yes {at' xs : Nat → Int} {b lv : Int} {m : Nat} (h : LastP at' xs b m lv) (hm : at' m = b) : LastP at' xs b (m + 1) (xs m) := fun j hj e hl => by
  rcases Nat.lt_or_ge j m with h5 | h5
  · exact absurd hm (hl m h5 (Nat.lt_succ_self _))
  · obtain rfl : j = m := by omega
    rfl
theorem LastP.no {at' xs : Nat → Int} {b lv : Int} {m : Nat} (h : LastP at' xs b m lv) (hm : at' m ≠ b) : LastP at' xs b (m + 1) lv := fun j hj e hl => by
  rcases Nat.lt_or_ge j m with h5 | h5
  · exact h j h5 e fun j' g1 g2 => hl j' g1 (by omega)
  · obtain rfl : j = m := by omega
    exact absurd e hm

end Go.Proofs.Ytpighdioomjnmab
