/-
  Layer 14: what the document's Put makes of a row of things. Written by an AI agent.
-/
import Derived.Test.YtpighdioomjnmabKpW
namespace Go.Proofs.Ytpighdioomjnmab
open Go.RowKit Go.Shelf
set_option linter.unusedVariables false
set_option linter.unusedSimpArgs false

/-- What the document's Put has made of the first k. -/
def refM (L : List (Int × Int)) (a x : Int) (r k : Nat) : List (Int × Int) :=
  if k ≤ r then L.take k else L.take r ++ (a, x) :: ((L.take k).drop r).filter (fun p => decide (p.1 ≠ a))

theorem refM_zero (L : List (Int × Int)) (a x : Int) (r : Nat) : refM L a x r 0 = [] := by simp [refM]

theorem take_succ_getD {L : List (Int × Int)} {k : Nat} (h : k < L.length) : L.take (k + 1) = L.take k ++ [L.getD k (0, 0)] := by
  rw [List.take_succ_eq_append_getElem h, getD_lt h]

theorem refM_low {L : List (Int × Int)} {a x : Int} {r k : Nat} (hk : k < r) (hn : k < L.length) : refM L a x r (k + 1) = refM L a x r k ++ [L.getD k (0, 0)] := by
  unfold refM
  rw [if_pos (by omega), if_pos (by omega), take_succ_getD hn]

theorem refM_at_eq {L : List (Int × Int)} {a x : Int} {r : Nat} (hn : r < L.length) (he : (L.getD r (0, 0)).1 = a) : refM L a x r (r + 1) = refM L a x r r ++ [(a, x)] := by
  unfold refM
  rw [if_neg (by omega), if_pos (Nat.le_refl _), take_succ_getD hn, List.drop_append_of_le_length (by rw [List.length_take]; omega),
    List.drop_eq_nil_of_le (by rw [List.length_take]; omega), List.nil_append, List.filter_cons_of_neg (by simpa using he), List.filter_nil]

theorem refM_at_ne {L : List (Int × Int)} {a x : Int} {r : Nat} (hn : r < L.length) (he : (L.getD r (0, 0)).1 ≠ a) : refM L a x r (r + 1) = refM L a x r r ++ [(a, x)] ++ [L.getD r (0, 0)] := by
  unfold refM
  rw [if_neg (by omega), if_pos (Nat.le_refl _), take_succ_getD hn, List.drop_append_of_le_length (by rw [List.length_take]; omega),
    List.drop_eq_nil_of_le (by rw [List.length_take]; omega), List.nil_append, List.filter_cons_of_pos (by simpa using he), List.filter_nil, List.append_assoc]
  rfl

theorem refM_high {L : List (Int × Int)} {a x : Int} {r k : Nat} (hk : r < k) (hn : k < L.length) (he : (L.getD k (0, 0)).1 ≠ a) : refM L a x r (k + 1) = refM L a x r k ++ [L.getD k (0, 0)] := by
  unfold refM
  rw [if_neg (by omega), if_neg (by omega), take_succ_getD hn, List.drop_append_of_le_length (by rw [List.length_take]; omega), List.filter_append, List.filter_cons_of_pos (by simpa using he), List.filter_nil, List.append_assoc, List.cons_append]

/-- What it has made of all, ahead of the cut. -/
def refF (L : List (Int × Int)) (a x : Int) (r : Nat) : List (Int × Int) := if L.length ≤ r then L ++ [(a, x)] else refM L a x r L.length

/-- The cut. -/
def cutK (mx : Int) (F : List (Int × Int)) : List (Int × Int) := if mx < (F.length : Int) then delK F (nearK F (F.length - 2)) else F

theorem refF_new {L : List (Int × Int)} {a x : Int} {r : Nat} (hr : r ≤ L.length) (h2 : ∀ t, r ≤ t → t < L.length → a < (L.getD t (0, 0)).1) : refF L a x r = insK L r (a, x) := by
  unfold refF insK
  by_cases h : L.length ≤ r
  · obtain rfl : r = L.length := by omega
    rw [if_pos h, List.take_length, List.drop_length]
  · rw [if_neg h]
    unfold refM
    rw [if_neg h, List.take_length, List.filter_eq_self.2 fun p hp => ?_]
    obtain ⟨i, hi, e⟩ := getD_of_mem hp
    rw [List.length_drop] at hi
    rw [List.getD_eq_getElem?_getD, List.getElem?_drop, ← List.getD_eq_getElem?_getD] at e
    have := h2 (r + i) (by omega) (by omega)
    rw [e] at this
    simp
    omega

theorem refF_there {L : List (Int × Int)} {a x : Int} {k : Nat} (hup : Up L) (hk : k < L.length) (he : (L.getD k (0, 0)).1 = a) : refF L a x k = L.set k (a, x) := by
  unfold refF
  rw [if_neg (by omega)]
  unfold refM
  rw [if_neg (by omega), List.take_length, List.drop_eq_getElem_cons hk, List.filter_cons_of_neg (by rw [← getD_lt hk]; simpa using he), List.filter_eq_self.2 fun p hp => ?_]
  · rw [List.set_eq_take_append_cons_drop, if_pos hk]
  · obtain ⟨i, hi, e⟩ := getD_of_mem hp
    rw [List.length_drop] at hi
    rw [List.getD_eq_getElem?_getD, List.getElem?_drop, ← List.getD_eq_getElem?_getD] at e
    have := hup k (k + 1 + i) (by omega) (by omega)
    rw [e, he] at this
    simp
    omega

theorem putD_doc {most : Int} {L M : List (Int × Int)} {a x : Int} (hup : Up L) (hl : (L.length : Int) ≤ max most 1) (h : PutD most L a x M) :
    ∃ r, r ≤ L.length ∧ (∀ t, t < r → (L.getD t (0, 0)).1 < a) ∧ (∀ t, r ≤ t → t < L.length → a ≤ (L.getD t (0, 0)).1) ∧ M = cutK (max most 1) (refF L a x r) := by
  rcases h with ⟨k, hk, he, rfl⟩ | ⟨r, hr, h1, h2, rfl⟩
  · refine ⟨k, by omega, fun t ht => by have := hup t k ht hk; omega, fun t ht hl => ?_, ?_⟩
    · rcases Nat.lt_or_ge k t with h | h
      · have := hup k t h hl
        omega
      · obtain rfl : t = k := by omega
        omega
    · unfold cutK
      rw [refF_there hup hk he, List.length_set, if_neg (by omega)]
  · refine ⟨r, hr, h1, fun t ht hl => by have := h2 t ht hl; omega, ?_⟩
    rw [refF_new hr h2]
    unfold cutK newK
    rw [insK_length, show L.length + 1 - 2 = L.length - 1 by omega]
    by_cases h : max most 1 < (L.length : Int) + 1
    · rw [if_pos h, if_pos (by omega)]
    · rw [if_neg h, if_neg (by omega)]

theorem cutK_length {mx : Int} {F : List (Int × Int)} (h1 : 1 ≤ mx) (hF : (F.length : Int) ≤ mx + 1) : ((cutK mx F).length : Int) ≤ mx := by
  unfold cutK
  split
  · have h := nearK_in F (F.length - 2)
    rw [delK_length _ _ (by omega)]
    omega
  · omega

theorem gap_same (a b : Int) : IntKind.u64.wrap (IntKind.i64.wrap (a - b)) = IntKind.u64.wrap (IntKind.u64.wrap a - IntKind.u64.wrap b) := by
  have e : ∀ z, IntKind.u64.wrap z = z % 18446744073709551616 := fun z => by simp [IntKind.wrap, IntKind.signed, IntKind.bits]
  have e2 : ∀ z, IntKind.i64.wrap z % 18446744073709551616 = z % 18446744073709551616 := fun z => by
    simp only [IntKind.wrap]
    split
    · simp [IntKind.bits]
    · simp [IntKind.bits]
  rw [e, e, e, e, e2]
  omega

end Go.Proofs.Ytpighdioomjnmab
