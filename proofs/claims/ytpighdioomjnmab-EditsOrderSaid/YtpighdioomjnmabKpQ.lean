/-
  Layer 14: what Puts make of rows of things: which times there are. Written by an AI agent.
-/
import Derived.Test.YtpighdioomjnmabKpP
namespace Go.Proofs.Ytpighdioomjnmab
open Go.RowKit Go.Shelf
set_option linter.unusedVariables false
set_option linter.unusedSimpArgs false

theorem getD_lt {L : List (Int × Int)} {i : Nat} (h : i < L.length) : L.getD i (0, 0) = L[i] := by
  rw [List.getD_eq_getElem?_getD, List.getElem?_eq_getElem h]; rfl
theorem getD_mem {L : List (Int × Int)} {i : Nat} (h : i < L.length) : L.getD i (0, 0) ∈ L := by
  rw [getD_lt h]; exact List.getElem_mem _

/-- The times of a row. -/
def ts (L : List (Int × Int)) : List Int := L.map fun p => p.1
theorem mem_ts {L : List (Int × Int)} {t : Int} : t ∈ ts L ↔ ∃ i, i < L.length ∧ (L.getD i (0, 0)).1 = t := by
  unfold ts
  rw [List.mem_map]
  constructor
  · rintro ⟨p, hp, rfl⟩
    obtain ⟨i, hi, e⟩ := getD_of_mem hp
    exact ⟨i, hi, by rw [e]⟩
  · rintro ⟨i, hi, rfl⟩
    exact ⟨_, getD_mem hi, rfl⟩

theorem mem_ins {L : List (Int × Int)} {r : Nat} {a p : Int × Int} : p ∈ insK L r a ↔ p = a ∨ p ∈ L := by
  unfold insK
  rw [List.mem_append, List.mem_cons]
  constructor
  · rintro (h | h | h)
    · exact .inr (List.mem_of_mem_take h)
    · exact .inl h
    · exact .inr (List.mem_of_mem_drop h)
  · rintro (h | h)
    · exact .inr (.inl h)
    · rw [← List.take_append_drop r L, List.mem_append] at h
      rcases h with h | h
      · exact .inl h
      · exact .inr (.inr h)

theorem perm_ins (L : List (Int × Int)) (r : Nat) (a : Int × Int) : (insK L r a).Perm (a :: L) := by
  unfold insK
  refine List.perm_middle.trans ?_
  rw [List.take_append_drop]

theorem mem_set_self {L : List (Int × Int)} {k : Nat} {a : Int × Int} (h : k < L.length) : a ∈ L.set k a := List.mem_set h a

theorem ts_set {L : List (Int × Int)} {k : Nat} {a x : Int} (h : k < L.length) (ha : (L.getD k (0, 0)).1 = a) : ts (L.set k (a, x)) = ts L := by
  unfold ts
  rw [List.map_set]
  apply List.ext_getElem
  · simp
  · intro i h1 h2
    rw [List.getElem_set]
    split
    · rename_i e
      subst e
      rw [List.getElem_map, ← getD_lt h, ha]
    · rfl

/-- A Put, as long as there is room. -/
theorem put_room {L M : List (Int × Int)} {a x : Int} (h : PutD 16 L a x M) (hL : L.length < 16) : M.length ≤ L.length + 1 ∧ a ∈ ts M ∧ ∀ t ∈ ts L, t ∈ ts M := by
  refine ⟨h.length, ?_⟩
  rcases h with ⟨k, hk, ha, rfl⟩ | ⟨r, hr, h1, h2, rfl⟩
  · rw [ts_set hk ha]
    exact ⟨mem_ts.2 ⟨k, hk, ha⟩, fun t h => h⟩
  · have e : newK 16 L r a x = insK L r (a, x) := by
      unfold newK
      rw [if_neg (by omega)]
    rw [e]
    unfold ts
    refine ⟨List.mem_map.2 ⟨(a, x), mem_ins.2 (.inl rfl), rfl⟩, fun t ht => ?_⟩
    obtain ⟨p, hp, rfl⟩ := List.mem_map.1 ht
    exact List.mem_map.2 ⟨p, mem_ins.2 (.inr hp), rfl⟩

/-- What was put in so far, as long as there was room. -/
def Room (at' : Nat → Int) (k : Nat) (M : List (Int × Int)) : Prop := M.length ≤ k ∧ ∀ j, j < k → at' j ∈ ts M
theorem Room.nil (at' : Nat → Int) : Room at' 0 [] := ⟨Nat.le_refl _, fun j h => absurd h (Nat.not_lt_zero _)⟩
theorem Room.put {at' : Nat → Int} {k : Nat} {L M : List (Int × Int)} {x : Int} (h : Room at' k L) (hk : k < 16) (hp : PutD 16 L (at' k) x M) : Room at' (k + 1) M := by
  have := h.1
  obtain ⟨h1, h2, h3⟩ := put_room hp (by omega)
  refine ⟨by omega, fun j hj => ?_⟩
  rcases Nat.lt_or_ge j k with hlt | hge
  · exact h3 _ (h.2 j hlt)
  · obtain rfl : j = k := by omega
    exact h2

/-- What Best tells of what was not dropped. -/
theorem best_of_take {M : List (Int × Int)} {r : Nat} {x t : Int} (hup : Up M) (hr : r ≤ M.length) (h1 : ∀ t, t < r → (M.getD t (0, 0)).1 ≤ x) (h2 : ∀ t, r ≤ t → t < M.length → x < (M.getD t (0, 0)).1)
    (ht : t ∈ ts M) (htx : t ≤ x) : ∃ i, i < r ∧ (M.getD i (0, 0)).1 = t := by
  obtain ⟨i, hi, e⟩ := mem_ts.1 ht
  refine ⟨i, ?_, e⟩
  rcases Nat.lt_or_ge i r with h | h
  · exact h
  · have := h2 i h hi
    omega

theorem take_getD {M : List (Int × Int)} {r i : Nat} (h : i < r) : (M.take r).getD i (0, 0) = M.getD i (0, 0) := by
  rw [List.getD_eq_getElem?_getD, List.getElem?_take, if_pos h, ← List.getD_eq_getElem?_getD]

end Go.Proofs.Ytpighdioomjnmab
