/-
  Layer 10: contracts at whatever place and number. Written by an AI agent.
-/
import Derived.Test.YtpighdioomjnmaaHpF
namespace Go.Proofs.Ytpighdioomjnmaa
open Go.RowKit
set_option linter.unusedVariables false

/-- How many numbers the list at a place has; none, where there is no list. -/
def lenAt (L : List (List Int)) (a : Int) : Nat := if 1 ≤ a ∧ a ≤ (L.length : Int) then (L.getD (a.toNat - 1) []).length else 0
/-- There is such a place. -/
def InL (L : List (List Int)) (a i : Int) : Prop := 0 ≤ i ∧ i < (lenAt L a : Int)
theorem InL.parts {L : List (List Int)} {a i : Int} (h : InL L a i) : ∃ k j : Nat, a = (k : Int) + 1 ∧ i = (j : Int) ∧ k < L.length ∧ j < (L.getD k []).length ∧ k = a.toNat - 1 ∧ j = i.toNat := by
  obtain ⟨h1, h2⟩ := h
  unfold lenAt at h2
  split at h2
  · rename_i hc
    exact ⟨a.toNat - 1, i.toNat, by omega, by omega, by omega, by omega, rfl, rfl⟩
  · omega

theorem lenAt_in {L : List (List Int)} {k : Nat} (hk : k < L.length) : lenAt L ((k : Int) + 1) = (L.getD k []).length := by
  unfold lenAt
  rw [if_pos (by omega)]
  congr 2

theorem listM_any (w : World) (S : Nat → Prop) (p : Nat) (L : List (List Int)) (H : HeapL w S p L) (hL : L.length ≤ 1000) (hc : L.flatten.length ≤ 1000) (a : Int) :
    Calls Try.prog 24 #[.pointer (some ⟨p, 0, none⟩), .int .i64 a] w (ListM (lenAt L a) w) := by
  obtain ⟨vc, ve, H⟩ := H
  by_cases h : 1 ≤ a ∧ a ≤ (L.length : Int)
  · obtain ⟨k, hk⟩ : ∃ k : Nat, a = (k : Int) + 1 := ⟨a.toNat - 1, by omega⟩
    subst hk
    rw [lenAt_in (by omega)]
    exact (list_in w S p vc ve L H hL hc k (by omega)).mono fun e w' h => h.toM
  · have : lenAt L a = 0 := by unfold lenAt; rw [if_neg h]
    rw [this]
    exact (list_out w S p vc ve L H a (by omega)).mono fun e w' h => h.toM

theorem len_ok (w : World) (S : Nat → Prop) (p : Nat) (L : List (List Int)) (H : HeapL w S p L) (hL : L.length ≤ 1000) (hc : L.flatten.length ≤ 1000) (a : Int) :
    Calls Try.prog 16 #[.pointer (some ⟨p, 0, none⟩), .int .i64 a] w fun e w' => e = .returned (.int .i64 (lenAt L a : Int)) ∧ ∃ k, w' = w.drewN k :=
  len_any w p _ a (listM_any w S p L H hL hc a)

/-- What Put leaves, at whatever place. -/
def PutAny (S : Nat → Prop) (p : Nat) (L : List (List Int)) (a i n : Int) (w : World) (e : Ending) (w' : World) : Prop :=
  ∃ (t : Int) (L' : List (List Int)), e = .returned (.int .i64 t) ∧ HeapL w' S p L' ∧ Keeps S w w' ∧ ((InL L a i ∧ t = 0 ∧ L' = setL L (a.toNat - 1) i.toNat n) ∨ (¬ InL L a i ∧ t = 2 ∧ L' = L))

theorem put_any (w : World) (S : Nat → Prop) (p : Nat) (L : List (List Int)) (H : HeapL w S p L) (hL : L.length ≤ 1000) (hc : L.flatten.length ≤ 1000) (a i n : Int) :
    Calls Try.prog 14 #[.pointer (some ⟨p, 0, none⟩), .int .i64 a, .int .i64 i, .int .i64 n] w (PutAny S p L a i n w) := by
  by_cases h : InL L a i
  · obtain ⟨k, j, rfl, rfl, hk, hj, e1, e2⟩ := h.parts
    refine (put_ok w S p L H hL hc k j hk hj n).mono ?_
    rintro e w' ⟨h1, h2, h3⟩
    exact ⟨0, _, h1, h2, h3, .inl ⟨h, rfl, by rw [← e1, ← e2]⟩⟩
  · refine (put_out w p _ a i n (listM_any w S p L H hL hc a) (by unfold InL at h; omega)).mono ?_
    rintro e w' ⟨h1, k, h2⟩
    have hk : Keeps (fun _ => False) w w' := by rw [h2]; exact keeps_drewN _ w k
    exact ⟨2, L, h1, H.keep hk (fun _ _ _ h => h), hk.mono (fun _ _ h => h.elim), .inr ⟨h, rfl, rfl⟩⟩

/-- What Get tells, at whatever place. -/
def GotAny (L : List (List Int)) (a i : Int) (w : World) (e : Ending) (w' : World) : Prop :=
  ∃ (g t : Int), e = .returned (.tuple #[.int .i64 g, .int .i64 t]) ∧ Keeps (fun _ => False) w w' ∧ ((InL L a i ∧ t = 0 ∧ g = (L.getD (a.toNat - 1) []).getD i.toNat 0) ∨ (¬ InL L a i ∧ t = 2 ∧ g = 0))

theorem get_any (w : World) (S : Nat → Prop) (p : Nat) (L : List (List Int)) (H : HeapL w S p L) (hL : L.length ≤ 1000) (hc : L.flatten.length ≤ 1000) (a i : Int) :
    Calls Try.prog 12 #[.pointer (some ⟨p, 0, none⟩), .int .i64 a, .int .i64 i] w (GotAny L a i w) := by
  by_cases h : InL L a i
  · obtain ⟨k, j, rfl, rfl, hk, hj, e1, e2⟩ := h.parts
    obtain ⟨vc, ve, H⟩ := H
    refine (get_in w S p vc ve L H hL hc k j hk hj).mono ?_
    rintro e w' ⟨h1, q, h2⟩
    have hk : Keeps (fun _ => False) w w' := by rw [h2]; exact keeps_drewN _ w q
    exact ⟨_, 0, h1, hk, .inl ⟨h, rfl, by rw [← e1, ← e2]⟩⟩
  · refine (get_out w p _ a i (listM_any w S p L H hL hc a) (by unfold InL at h; omega)).mono ?_
    rintro e w' ⟨h1, k, h2⟩
    have hk : Keeps (fun _ => False) w w' := by rw [h2]; exact keeps_drewN _ w k
    exact ⟨0, 2, h1, hk, .inr ⟨h, rfl, rfl⟩⟩

/-- There is room for a list of so many. -/
def Fits (L : List (List Int)) (n : Int) : Prop := (L.length : Int) + (L.flatten.length : Int) + n + 1 ≤ 40

/-- What Make leaves, of whatever number. -/
def MadeAny (S : Nat → Prop) (p : Nat) (L : List (List Int)) (n : Int) (w : World) (e : Ending) (w' : World) : Prop :=
  ∃ (x t : Int) (L' : List (List Int)), e = .returned (.tuple #[.int .i64 x, .int .i64 t]) ∧ HeapL w' (fun k => S k ∨ (w.heap.size ≤ k ∧ k < w'.heap.size)) p L' ∧ Keeps S w w' ∧
    (((n < 0 ∨ 16 < n) ∧ x = 0 ∧ t = 7 ∧ L' = L) ∨ (0 ≤ n ∧ n ≤ 16 ∧ ¬ Fits L n ∧ x = 0 ∧ t = 4 ∧ L' = L) ∨ (0 ≤ n ∧ n ≤ 16 ∧ Fits L n ∧ x = (L.length : Int) + 1 ∧ t = 0 ∧ L' = L ++ [List.replicate n.toNat 0]))

theorem make_any (w : World) (S : Nat → Prop) (p : Nat) (L : List (List Int)) (H : HeapL w S p L) (hL : L.length ≤ 1000) (hc : L.flatten.length ≤ 1000) (n : Int) :
    Calls Try.prog 10 #[.pointer (some ⟨p, 0, none⟩), .int .i64 n] w (MadeAny S p L n w) := by
  by_cases h0 : n < 0
  · refine (make_low w p n h0).mono ?_
    rintro e w' ⟨h1, h2⟩
    subst h2
    exact ⟨0, 7, L, h1, H.wider fun k _ h => .inl h, Keeps.refl _ _, .inl ⟨.inl h0, rfl, rfl, rfl⟩⟩
  by_cases h1 : 16 < n
  · refine (make_high w p n h0 h1).mono ?_
    rintro e w' ⟨h2, h3⟩
    subst h3
    exact ⟨0, 7, L, h2, H.wider fun k _ h => .inl h, Keeps.refl _ _, .inl ⟨.inr h1, rfl, rfl, rfl⟩⟩
  obtain ⟨m, rfl⟩ : ∃ m : Nat, n = (m : Int) := ⟨n.toNat, by omega⟩
  by_cases hf : Fits L (m : Int)
  · refine (make_ok w S p L H m (by omega) (by unfold Fits at hf; omega)).mono ?_
    rintro e w' ⟨h2, h3, h4⟩
    exact ⟨_, 0, _, h2, h3, h4, .inr (.inr ⟨by omega, by omega, hf, rfl, rfl, rfl⟩)⟩
  · refine (make_no w S p L H hL hc m (by omega) (by unfold Fits at hf; omega)).mono ?_
    rintro e w' ⟨h2, q, h3⟩
    have hk : Keeps (fun _ => False) w w' := by rw [h3]; exact keeps_drewN _ w q
    exact ⟨0, 4, L, h2, (H.keep hk (fun _ _ _ h => h)).wider fun k _ h => .inl h, hk.mono (fun _ _ h => h.elim), .inr (.inl ⟨by omega, by omega, hf, rfl, rfl, rfl⟩)⟩

end Go.Proofs.Ytpighdioomjnmaa
