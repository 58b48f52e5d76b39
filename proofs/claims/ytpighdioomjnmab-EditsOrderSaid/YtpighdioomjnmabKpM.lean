/-
  Layer 14: what Put makes of a row of things: its order. Written by an AI agent.
-/
import Derived.Test.YtpighdioomjnmabKpL
namespace Go.Proofs.Ytpighdioomjnmab
open Go.RowKit Go.Shelf
set_option linter.unusedVariables false
set_option linter.unusedSimpArgs false

/-- The times rise. -/
def Up (L : List (Int × Int)) : Prop := ∀ i j, i < j → j < L.length → (L.getD i (0, 0)).1 < (L.getD j (0, 0)).1

theorem up_iff (L : List (Int × Int)) : Up L ↔ L.Pairwise fun a b => a.1 < b.1 := by
  rw [List.pairwise_iff_getElem]
  constructor
  · intro h i j hi hj hij
    have := h i j hij hj
    rw [List.getD_eq_getElem?_getD, List.getD_eq_getElem?_getD, List.getElem?_eq_getElem hi, List.getElem?_eq_getElem hj] at this
    exact this
  · intro h i j hij hj
    have := h i j (by omega) hj hij
    rw [List.getD_eq_getElem?_getD, List.getD_eq_getElem?_getD, List.getElem?_eq_getElem (by omega : i < L.length), List.getElem?_eq_getElem hj]
    exact this

/-- A thing laid in at a place; a thing let go. -/
def insK (L : List (Int × Int)) (r : Nat) (a : Int × Int) : List (Int × Int) := L.take r ++ a :: L.drop r
def delK (L : List (Int × Int)) (i : Nat) : List (Int × Int) := L.take i ++ L.drop (i + 1)

theorem insK_length (L : List (Int × Int)) (r : Nat) (a : Int × Int) : (insK L r a).length = L.length + 1 := by
  unfold insK
  rw [List.length_append, List.length_cons, List.length_take, List.length_drop]
  omega
theorem delK_length (L : List (Int × Int)) (i : Nat) (h : i < L.length) : (delK L i).length = L.length - 1 := by
  unfold delK
  rw [List.length_append, List.length_take, List.length_drop]
  omega

theorem getD_of_mem {L : List (Int × Int)} {a : Int × Int} (h : a ∈ L) : ∃ i, i < L.length ∧ L.getD i (0, 0) = a := by
  obtain ⟨i, hi, e⟩ := List.getElem_of_mem h
  exact ⟨i, hi, by rw [List.getD_eq_getElem?_getD, List.getElem?_eq_getElem hi]; exact e⟩

theorem up_ins {L : List (Int × Int)} {r : Nat} {a : Int × Int} (h : Up L) (hr : r ≤ L.length) (h1 : ∀ t, t < r → (L.getD t (0, 0)).1 < a.1) (h2 : ∀ t, r ≤ t → t < L.length → a.1 < (L.getD t (0, 0)).1) : Up (insK L r a) := by
  rw [up_iff] at h ⊢
  have h0 := h
  rw [← List.take_append_drop r L, List.pairwise_append] at h
  obtain ⟨p1, p2, p3⟩ := h
  have q1 : ∀ b ∈ L.take r, b.1 < a.1 := fun b hb => by
    obtain ⟨i, hi, e⟩ := getD_of_mem hb
    rw [List.length_take] at hi
    have := h1 i (by omega)
    rw [List.getD_eq_getElem?_getD, List.getElem?_take, if_pos (by omega), ← List.getD_eq_getElem?_getD] at e
    rw [e] at this
    exact this
  have q2 : ∀ b ∈ L.drop r, a.1 < b.1 := fun b hb => by
    obtain ⟨i, hi, e⟩ := getD_of_mem hb
    rw [List.length_drop] at hi
    have := h2 (r + i) (by omega) (by omega)
    rw [List.getD_eq_getElem?_getD, List.getElem?_drop, ← List.getD_eq_getElem?_getD] at e
    rw [e] at this
    exact this
  unfold insK
  rw [List.pairwise_append, List.pairwise_cons]
  refine ⟨p1, ⟨q2, p2⟩, fun b hb d hd => ?_⟩
  rcases List.mem_cons.1 hd with rfl | hd
  · exact q1 b hb
  · exact p3 b hb d hd

theorem up_del {L : List (Int × Int)} {i : Nat} (h : Up L) : Up (delK L i) := by
  rw [up_iff] at h ⊢
  exact h.sublist (by
    unfold delK
    have e : L = L.take i ++ L.drop i := (List.take_append_drop i L).symm
    conv => rhs; rw [e]
    exact (List.Sublist.refl _).append (List.drop_sublist_drop_left L (Nat.le_succ i)))

theorem up_set {L : List (Int × Int)} {k : Nat} {a : Int × Int} (h : Up L) (hk : k < L.length) (ha : (L.getD k (0, 0)).1 = a.1) : Up (L.set k a) := by
  have e : ∀ i, i < L.length → ((L.set k a).getD i (0, 0)).1 = (L.getD i (0, 0)).1 := fun i hi => by
    by_cases hik : k = i
    · subst hik
      rw [List.getD_eq_getElem?_getD, List.getElem?_set_self hk, ha]
      rfl
    · rw [List.getD_eq_getElem?_getD, List.getElem?_set_ne hik, ← List.getD_eq_getElem?_getD]
  intro i j hij hj
  rw [List.length_set] at hj
  rw [e i (by omega), e j hj]
  exact h i j hij hj

theorem flatK_ins (L : List (Int × Int)) (r : Nat) (a : Int × Int) (h : r ≤ L.length) : (flatK L).take (r * 2) ++ [.int .i64 a.1, .int .i64 a.2] ++ (flatK L).drop (r * 2) = flatK (insK L r a) := by
  unfold insK
  rw [flatK_take L r h, flatK_drop L r h, flatK_append, flatK_cons, List.append_assoc]
  rfl
theorem flatK_del (L : List (Int × Int)) (i : Nat) (h : i < L.length) : (flatK L).take (i * 2) ++ (flatK L).drop ((i + 1) * 2) = flatK (delK L i) := by
  unfold delK
  rw [flatK_take L i (by omega), flatK_drop L (i + 1) (by omega), flatK_append]

end Go.Proofs.Ytpighdioomjnmab
