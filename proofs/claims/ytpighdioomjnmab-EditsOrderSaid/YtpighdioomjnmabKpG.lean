/-
  Layer 14: sort.Search of a function that only reads. Written by an AI agent.
-/
import Derived.Test.YtpighdioomjnmabKpE
import Derived.Shelf.SlSorted.Search
import Derived.Shelf.Lay
import Derived.RegionTactic
import Derived.Ground.SlsoProg
namespace Go.Proofs.Ytpighdioomjnmab
open Go.RowKit Go.Shelf
set_option linter.unusedVariables false
set_option linter.unusedSimpArgs false

shelf_lay SlLaysO.n16 Slso 16 at Try as Try.searchL

/-- What sort.Search finds: the first place of which p holds. -/
def Found (n : Nat) (p : Nat → Bool) (w : World) (e : Ending) (w' : World) : Prop :=
  ∃ (r q : Nat) (os : Array Obj), e = .returned (.int .i64 (r : Int)) ∧ w' = Go.Sort.grow (w.drewN q) os ∧ r ≤ n ∧ (∀ t, t < r → p t = false) ∧ (∀ t, r ≤ t → t < n → p t = true)

theorem search_any (w : World) (g : Nat) (cb : Array Value) (n : Nat) (p : Nat → Bool) (eg : ∀ args w, (callFunc g args).run Try.prog w = .ok (.enter g args) w) (hsz : n ≤ 1000)
    (hf : ∀ (m : Nat) (os : Array Obj) (i : Nat), i < n → Calls Try.prog g (#[.int .i64 (i : Int)] ++ cb) (Go.Sort.grow (w.drewN m) os) fun e w' => e = .returned (.bool (p i)) ∧ ∃ q os', w' = Go.Sort.grow ((Go.Sort.grow (w.drewN m) os).drewN q) os') (hmono : ∀ a b, a ≤ b → b < n → p a = true → p b = true) :
    Calls Try.prog 53 #[.int .i64 (n : Int), .func (.func g) #[] cb] w (Found n p w) := by
  have h := Go.Proofs.Any.sort_Search Try.searchL g cb n p w eg (by omega) hf hmono
  change Calls Try.prog 53 _ _ _ at h
  refine h.mono ?_
  rintro e w' ⟨rfl, q, os, rfl⟩
  have hle : (List.range n).countP (fun i => !p i) ≤ n := by
    have := List.countP_le_length (p := fun i => !p i) (l := List.range n)
    simpa using this
  refine ⟨_, q, os, rfl, rfl, hle, ?_⟩
  -- the places of which p does not hold are the first ones
  have key : ∀ k, k ≤ n → (∀ t, t < (List.range k).countP (fun i => !p i) → p t = false) ∧ (∀ t, (List.range k).countP (fun i => !p i) ≤ t → t < k → p t = true) := by
    intro k
    induction k with
    | zero => exact fun _ => ⟨fun t ht => by simp at ht, fun t _ ht => absurd ht (Nat.not_lt_zero _)⟩
    | succ k ih =>
      intro hk
      obtain ⟨h1, h2⟩ := ih (by omega)
      have hc : (List.range k).countP (fun i => !p i) ≤ k := by
        have := List.countP_le_length (p := fun i => !p i) (l := List.range k)
        simpa using this
      rw [List.range_succ, List.countP_append]
      cases hp : p k with
      | true =>
        have e : ([k] : List Nat).countP (fun i => !p i) = 0 := by simp [hp]
        rw [e, Nat.add_zero]
        refine ⟨h1, fun t h3 h4 => ?_⟩
        rcases Nat.lt_or_ge t k with h | h
        · exact h2 t h3 h
        · obtain rfl : t = k := by omega
          exact hp
      | false =>
        have e : ([k] : List Nat).countP (fun i => !p i) = 1 := by simp [hp]
        have hall : (List.range k).countP (fun i => !p i) = k := by
          rcases Nat.lt_or_ge ((List.range k).countP (fun i => !p i)) k with h | h
          · have h5 := h2 _ (Nat.le_refl _) h
            have h6 := hmono _ k (by omega) (by omega) h5
            rw [hp] at h6
            cases h6
          · omega
        rw [e, hall]
        rw [hall] at h1
        refine ⟨fun t ht => ?_, fun t h3 h4 => by omega⟩
        rcases Nat.lt_or_ge t k with h | h
        · exact h1 t h
        · obtain rfl : t = k := by omega
          exact hp
  exact key n (Nat.le_refl _)

set_option maxRecDepth 100000 in
set_option maxHeartbeats 1000000 in
theorem behind_asks (W : World) (P X kp g n c i : Nat) (x y : Int) (hp : W.cell? ⟨P, 0, none⟩ = some (.pointer (some ⟨kp, 0, none⟩))) (hl : W.cell? ⟨kp, 1, none⟩ = some (.slice (some ⟨g, 0, none⟩) n c)) (hc : W.cell? ⟨g, i * 2, none⟩ = some (.int .i64 y)) (hx : W.cell? ⟨X, 0, none⟩ = some (.int .i64 x)) (hi : i < n) :
    Calls Try.prog 54 (#[.int .i64 (i : Int)] ++ #[.pointer (some ⟨P, 0, none⟩), .pointer (some ⟨X, 0, none⟩)]) W fun e w' => e = .returned (.bool (decide (x < y))) ∧ ∃ q, w' = W.drewN q := by
  have hiz : (i : Int) < (n : Int) := by omega
  have hi0 : (0 : Int) ≤ (i : Int) := by omega
  go_enter Try.func54, Try.ntmps54
  go_wp2
  go_region
  all_goals go_wp2
  all_goals go_ret
  all_goals exact ⟨by first | rfl | simp, 1, rfl⟩

end Go.Proofs.Ytpighdioomjnmab
