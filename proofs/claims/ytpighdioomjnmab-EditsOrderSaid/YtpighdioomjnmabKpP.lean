/-
  Layer 14: Put of numbers, of whatever time. Written by an AI agent.
-/
import Derived.Test.YtpighdioomjnmabKpO
namespace Go.Proofs.Ytpighdioomjnmab
open Go.RowKit Go.Shelf
set_option linter.unusedVariables false
set_option linter.unusedSimpArgs false

theorem KeepIs.wider {w : World} {S T : Nat → Prop} {kp : Nat} {most : Int} {v : Value} {L : List (Int × Int)} (h : KeepIs w S kp most v L) (hST : ∀ k, S k → T k) : KeepIs w T kp most v L :=
  { h with sp := hST _ h.sp, vb := fun g hg => ⟨hST g (h.vb g hg).1, (h.vb g hg).2⟩ }

/-- What a Put makes of a row of things. -/
def PutD (most : Int) (L : List (Int × Int)) (a x : Int) (M : List (Int × Int)) : Prop :=
  (∃ k, k < L.length ∧ (L.getD k (0, 0)).1 = a ∧ M = L.set k (a, x)) ∨
  (∃ r, r ≤ L.length ∧ (∀ t, t < r → (L.getD t (0, 0)).1 < a) ∧ (∀ t, r ≤ t → t < L.length → a < (L.getD t (0, 0)).1) ∧ M = newK most L r a x)

theorem PutD.length {most : Int} {L M : List (Int × Int)} {a x : Int} (h : PutD most L a x M) : M.length ≤ L.length + 1 := by
  rcases h with ⟨k, _, _, rfl⟩ | ⟨r, _, _, _, rfl⟩
  · rw [List.length_set]; omega
  · unfold newK
    split
    · have h := insK_length L r (a, x)
      unfold delK
      rw [List.length_append, List.length_take, List.length_drop]
      omega
    · rw [insK_length]
      exact Nat.le_refl _

/-- What Put leaves. -/
def PutAnyK (S : Nat → Prop) (kp : Nat) (most : Int) (L : List (Int × Int)) (a x : Int) (w : World) (e : Ending) (w' : World) : Prop :=
  ∃ (v' : Value) (M : List (Int × Int)), e = .returned (.tuple #[]) ∧ PutD most L a x M ∧ KeepIs w' (fun k => S k ∨ (w.heap.size ≤ k ∧ k < w'.heap.size)) kp most v' M ∧ Keeps S w w'

theorem put_any (w : World) (S : Nat → Prop) (kp : Nat) (most : Int) (v : Value) (L : List (Int × Int)) (H : KeepIs w S kp most v L) (hn : L.length ≤ 900) (a x : Int) :
    Calls Try.prog 14 #[.pointer (some ⟨kp, 0, none⟩), .int .i64 a, .int .i64 x] w (PutAnyK S kp most L a x w) := by
  by_cases h : ∃ k, k < L.length ∧ (L.getD k (0, 0)).1 = a
  · obtain ⟨k, h1, h2⟩ := h
    refine (put_there w S kp most v L H (by omega) a x k h1 h2).mono ?_
    rintro e w' ⟨k', v', rfl, h3, h4, hK, hk⟩
    exact ⟨v', _, rfl, .inl ⟨k', h3, h4, rfl⟩, hK.wider fun _ h => .inl h, hk⟩
  · refine (put_new w S kp most v L H hn a x (fun t ht e => h ⟨t, ht, e⟩)).mono ?_
    rintro e w' ⟨r, v', rfl, h3, h4, h5, hK, hk⟩
    exact ⟨v', _, rfl, .inr ⟨r, h3, h4, h5, rfl⟩, hK, hk⟩

end Go.Proofs.Ytpighdioomjnmab
