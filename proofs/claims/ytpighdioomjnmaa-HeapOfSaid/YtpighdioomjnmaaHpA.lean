/-
  Layer 10: contracts of New and list. Written by an AI agent.
-/
import Derived.Test.YtpighdioomjnmaaHpZ
import Derived.Test.YtpighdioomjnmaaChecked
import Derived.WalkKit
import Derived.ProofKit
import Derived.Deep.QuietTactic
import Derived.BigQuiet
import Derived.IntWalk
import Derived.Lib.Hide
namespace Go.Proofs.Ytpighdioomjnmaa
open Go.RowKit
set_option linter.unusedVariables false

theorem new_any (w : World) :
    Calls Try.prog 9 #[] w fun e w' => e = .returned (.pointer (some ⟨w.heap.size, 0, none⟩)) ∧ w' = w.alloc (.cells #[.slice none 0 0, .slice none 0 0] 52) := by
  go_enter Try.func9, Try.ntmps9
  go_wp2
  go_ret
  exact ⟨rfl, rfl⟩

theorem list_first (w : World) (p gc lc cc ge le ce n : Nat) (h0 : w.cell? ⟨p, 0, none⟩ = some (.slice (some ⟨gc, 0, none⟩) lc cc)) (h1 : w.cell? ⟨p, 1, none⟩ = some (.slice (some ⟨ge, 0, none⟩) le ce))
    (hl : 0 < le) (hl2 : le ≤ 1000) (he : w.cell? ⟨ge, 0, none⟩ = some (.int .i64 (n : Int))) (hn : n ≤ cc) :
    Calls Try.prog 24 #[.pointer (some ⟨p, 0, none⟩), .int .i64 1] w fun e w' => e = .returned (.slice (some ⟨gc, 0, none⟩) n n) ∧ ∃ k, w' = w.drewN k := by
  have e1 : ¬ (le : Int) < 1 := by omega
  have e2 : (0 : Int) < (le : Int) := by omega
  go_enter Try.func24, Try.ntmps24
  go_wp2
  go_quiet (fail)
  go_wp2
  go_ret
  exact ⟨rfl, ⟨_, rfl⟩⟩

theorem list_first_nil (w : World) (p ge le ce : Nat) (h0 : w.cell? ⟨p, 0, none⟩ = some (.slice none 0 0)) (h1 : w.cell? ⟨p, 1, none⟩ = some (.slice (some ⟨ge, 0, none⟩) le ce))
    (hl : 0 < le) (hl2 : le ≤ 1000) (he : w.cell? ⟨ge, 0, none⟩ = some (.int .i64 0)) :
    Calls Try.prog 24 #[.pointer (some ⟨p, 0, none⟩), .int .i64 1] w fun e w' => e = .returned (.slice none 0 0) ∧ ∃ k, w' = w.drewN k := by
  have e1 : ¬ (le : Int) < 1 := by omega
  have e2 : (0 : Int) < (le : Int) := by omega
  go_enter Try.func24, Try.ntmps24
  go_wp2
  go_quiet (fail)
  go_wp2
  go_ret
  exact ⟨rfl, ⟨_, rfl⟩⟩

theorem list_next (w : World) (p gc lc cc ge le ce f n k : Nat) (h0 : w.cell? ⟨p, 0, none⟩ = some (.slice (some ⟨gc, 0, none⟩) lc cc)) (h1 : w.cell? ⟨p, 1, none⟩ = some (.slice (some ⟨ge, 0, none⟩) le ce))
    (hl : k + 1 < le) (hl2 : le ≤ 1000) (he : w.cell? ⟨ge, k + 1, none⟩ = some (.int .i64 (n : Int))) (hf : w.cell? ⟨ge, k, none⟩ = some (.int .i64 (f : Int))) (hfn : f < n) (hn : n ≤ cc) (hn2 : n ≤ 1000) :
    Calls Try.prog 24 #[.pointer (some ⟨p, 0, none⟩), .int .i64 ((k : Int) + 2)] w fun e w' => e = .returned (.slice (some ⟨gc, f, none⟩) (n - f) (n - f)) ∧ ∃ k, w' = w.drewN k := by
  have e0 : ¬ (k : Int) + 2 < 1 := by omega
  have e1 : ¬ (le : Int) < (k : Int) + 2 := by omega
  have e2 : (1 : Int) < (k : Int) + 2 := by omega
  have s1 : IntKind.i64.wrap ((k : Int) + 2 - 1) = ((k + 1 : Nat) : Int) := by rw [IntWalk.i64_in _ (by omega)]; omega
  have s2 : IntKind.i64.wrap ((k : Int) + 2 - 2) = ((k : Nat) : Int) := by rw [IntWalk.i64_in _ (by omega)]; omega
  have b1 : (((k + 1 : Nat) : Int)) < (le : Int) := by omega
  have b2 : ((k : Nat) : Int) < (le : Int) := by omega
  have b3 : (0 : Int) ≤ ((k + 1 : Nat) : Int) := by omega
  have b4 : (f : Int) ≤ (n : Int) := by omega
  have b5 : (n : Int) ≤ (cc : Int) := by omega
  have b6 : ¬ n = f := by omega
  go_enter Try.func24, Try.ntmps24
  go_wp2
  go_quiet (fail)
  go_wp2
  go_ret
  exact ⟨rfl, ⟨_, rfl⟩⟩

theorem list_next_none (w : World) (p gc lc cc ge le ce n k : Nat) (h0 : w.cell? ⟨p, 0, none⟩ = some (.slice (some ⟨gc, 0, none⟩) lc cc)) (h1 : w.cell? ⟨p, 1, none⟩ = some (.slice (some ⟨ge, 0, none⟩) le ce))
    (hl : k + 1 < le) (hl2 : le ≤ 1000) (he : w.cell? ⟨ge, k + 1, none⟩ = some (.int .i64 (n : Int))) (hf : w.cell? ⟨ge, k, none⟩ = some (.int .i64 (n : Int))) (hn : n ≤ cc) (hn2 : n ≤ 1000) :
    Calls Try.prog 24 #[.pointer (some ⟨p, 0, none⟩), .int .i64 ((k : Int) + 2)] w fun e w' => e = .returned (.slice (some ⟨gc, 0, none⟩) 0 0) ∧ ∃ k, w' = w.drewN k := by
  have e0 : ¬ (k : Int) + 2 < 1 := by omega
  have e1 : ¬ (le : Int) < (k : Int) + 2 := by omega
  have e2 : (1 : Int) < (k : Int) + 2 := by omega
  have s1 : IntKind.i64.wrap ((k : Int) + 2 - 1) = ((k + 1 : Nat) : Int) := by rw [IntWalk.i64_in _ (by omega)]; omega
  have s2 : IntKind.i64.wrap ((k : Int) + 2 - 2) = ((k : Nat) : Int) := by rw [IntWalk.i64_in _ (by omega)]; omega
  have b1 : (((k + 1 : Nat) : Int)) < (le : Int) := by omega
  have b2 : ((k : Nat) : Int) < (le : Int) := by omega
  have b3 : (0 : Int) ≤ ((k + 1 : Nat) : Int) := by omega
  have b5 : (n : Int) ≤ (cc : Int) := by omega
  go_enter Try.func24, Try.ntmps24
  go_wp2
  go_quiet (fail)
  go_wp2
  go_ret
  exact ⟨rfl, ⟨_, rfl⟩⟩

theorem list_next_nil (w : World) (p ge le ce k : Nat) (h0 : w.cell? ⟨p, 0, none⟩ = some (.slice none 0 0)) (h1 : w.cell? ⟨p, 1, none⟩ = some (.slice (some ⟨ge, 0, none⟩) le ce))
    (hl : k + 1 < le) (hl2 : le ≤ 1000) (he : w.cell? ⟨ge, k + 1, none⟩ = some (.int .i64 0)) (hf : w.cell? ⟨ge, k, none⟩ = some (.int .i64 0)) :
    Calls Try.prog 24 #[.pointer (some ⟨p, 0, none⟩), .int .i64 ((k : Int) + 2)] w fun e w' => e = .returned (.slice none 0 0) ∧ ∃ k, w' = w.drewN k := by
  have e0 : ¬ (k : Int) + 2 < 1 := by omega
  have e1 : ¬ (le : Int) < (k : Int) + 2 := by omega
  have e2 : (1 : Int) < (k : Int) + 2 := by omega
  have s1 : IntKind.i64.wrap ((k : Int) + 2 - 1) = ((k + 1 : Nat) : Int) := by rw [IntWalk.i64_in _ (by omega)]; omega
  have s2 : IntKind.i64.wrap ((k : Int) + 2 - 2) = ((k : Nat) : Int) := by rw [IntWalk.i64_in _ (by omega)]; omega
  have b1 : (((k + 1 : Nat) : Int)) < (le : Int) := by omega
  have b2 : ((k : Nat) : Int) < (le : Int) := by omega
  have b3 : (0 : Int) ≤ ((k + 1 : Nat) : Int) := by omega
  go_enter Try.func24, Try.ntmps24
  go_wp2
  go_quiet (fail)
  go_wp2
  go_ret
  exact ⟨rfl, ⟨_, rfl⟩⟩

theorem list_low (w : World) (p : Nat) (at0 : Int) (h : at0 < 1) :
    Calls Try.prog 24 #[.pointer (some ⟨p, 0, none⟩), .int .i64 at0] w fun e w' => e = .returned (.slice none 0 0) ∧ ∃ k, w' = w.drewN k := by
  go_enter Try.func24, Try.ntmps24
  go_wp2
  go_ret
  exact ⟨rfl, ⟨0, rfl⟩⟩

theorem list_high (w : World) (p le ce : Nat) (A : Option Addr) (at0 : Int) (h1 : w.cell? ⟨p, 1, none⟩ = some (.slice A le ce)) (h : ¬ at0 < 1) (hh : (le : Int) < at0) :
    Calls Try.prog 24 #[.pointer (some ⟨p, 0, none⟩), .int .i64 at0] w fun e w' => e = .returned (.slice none 0 0) ∧ ∃ k, w' = w.drewN k := by
  go_enter Try.func24, Try.ntmps24
  go_wp2
  go_ret
  exact ⟨rfl, ⟨0, rfl⟩⟩

/-- What list hands back: a piece of the row. -/
def GotList (vc : Value) (f m : Nat) (w : World) (e : Ending) (w' : World) : Prop :=
  ∃ A, e = .returned (.slice A m m) ∧ (0 < m → ∃ g, vc.ownBlock = some g ∧ A = some ⟨g, f, none⟩) ∧ ∃ k, w' = w.drewN k

theorem flat_take (L : List (List Int)) (i : Nat) (h : i < L.length) : (L.take (i + 1)).flatten.length = (L.take i).flatten.length + (L.getD i []).length := by
  rw [List.take_succ_eq_append_getElem h, List.flatten_append]
  simp [List.getD_eq_getElem?_getD, List.getElem?_eq_getElem h]
theorem flat_le (L : List (List Int)) (i : Nat) : (L.take i).flatten.length ≤ L.flatten.length := by
  have : L.flatten = (L.take i).flatten ++ (L.drop i).flatten := by rw [← List.flatten_append, List.take_append_drop]
  rw [this, List.length_append]
  omega

theorem list_in (w : World) (S : Nat → Prop) (p : Nat) (vc ve : Value) (L : List (List Int)) (H : HeapIs w S p vc ve L.flatten (ends L)) (hL : L.length ≤ 1000) (hc : L.flatten.length ≤ 1000) (i : Nat) (hi : i < L.length) :
    Calls Try.prog 24 #[.pointer (some ⟨p, 0, none⟩), .int .i64 ((i : Int) + 1)] w (GotList vc (L.take i).flatten.length (L.getD i []).length w) := by
  have q0 := H.c0
  have q1 := H.c1
  have oc := H.oc
  have oe := H.oe
  have hle : ∀ j, j < L.length → ∀ g n c, ve = .slice (some ⟨g, 0, none⟩) n c → w.cell? ⟨g, j, none⟩ = some (.int .i64 (((L.take (j + 1)).flatten.length : Nat) : Int)) := by
    intro j hj g n c hv
    subst hv
    obtain rfl : n = (ends L).length := by
      rcases oe.2 with ⟨h', _⟩ | ⟨g', cap', cur, h', _⟩
      · simp at h'
      · simp only [Value.slice.injEq] at h'
        exact h'.2.1
    rw [oe.cellAt j (by rw [ends_length]; omega), iv_at (by rw [ends_length]; exact hj), ends_at hj]
  rcases oe.2 with ⟨_, h'⟩ | ⟨ge, ce, cur, hve, _, _, hce, _⟩
  · rw [ends_length] at h'
    omega
  rw [hve, ends_length] at q1
  rw [ends_length] at hve
  have fl := fun j => flat_le L j
  have ft := flat_take L i hi
  have d0 : w.drewN 0 = w := rfl
  rcases oc.2 with ⟨hvc, h0⟩ | ⟨gc, cc, cur2, hvc, _, _, hcc, _⟩
  · rw [hvc] at q0
    have z : (L.getD i []).length = 0 := by have := fl (i + 1); omega
    rw [z]
    have z2 : ∀ j, j < L.length → w.cell? ⟨ge, j, none⟩ = some (.int .i64 0) := fun j hj => by
      rw [hle j hj ge _ _ hve]
      have := fl (j + 1)
      rw [show (L.take (j + 1)).flatten.length = 0 by omega]
      rfl
    rcases i with _ | k
    · exact (list_first_nil w p ge L.length ce q0 q1 (by omega) hL (z2 0 hi)).mono fun e w' ⟨h1, h2⟩ => ⟨none, h1, fun h => by omega, h2⟩
    · rw [show ((k + 1 : Nat) : Int) + 1 = (k : Int) + 2 by omega]
      exact (list_next_nil w p ge L.length ce k q0 q1 hi hL (z2 (k + 1) hi) (z2 k (by omega))).mono fun e w' ⟨h1, h2⟩ => ⟨none, h1, fun h => by omega, h2⟩
  · rw [hvc] at q0
    have ob : vc.ownBlock = some gc := by rw [hvc]; rfl
    have fi := fl (i + 1)
    rcases i with _ | k
    · have e0 := hle 0 hi ge _ _ hve
      simp only [List.take_zero, List.flatten_nil, List.length_nil, Nat.zero_add] at ft e0 fi ⊢
      rw [ft] at e0 fi
      exact (list_first w p gc _ cc ge L.length ce _ q0 q1 (by omega) hL e0 (by omega)).mono fun e w' ⟨h1, h2⟩ => ⟨_, h1, fun h => ⟨gc, ob, rfl⟩, h2⟩
    · have e1 := hle (k + 1) hi ge _ _ hve
      have e0 := hle k (by omega) ge _ _ hve
      rw [show ((k + 1 : Nat) : Int) + 1 = (k : Int) + 2 by omega]
      by_cases z : (L.getD (k + 1) []).length = 0
      · rw [z] at ft ⊢
        rw [ft] at e1
        exact (list_next_none w p gc _ cc ge L.length ce _ k q0 q1 hi hL e1 e0 (by omega) (by omega)).mono fun e w' ⟨h1, h2⟩ => ⟨_, h1, fun h => by omega, h2⟩
      · have hd : (L.getD (k + 1) []).length = (L.take (k + 1 + 1)).flatten.length - (L.take (k + 1)).flatten.length := by omega
        rw [hd]
        exact (list_next w p gc _ cc ge L.length ce _ _ k q0 q1 hi hL e1 e0 (by omega) (by omega) (by omega)).mono fun e w' ⟨h1, h2⟩ => ⟨_, h1, fun h => ⟨gc, ob, rfl⟩, h2⟩

theorem list_out (w : World) (S : Nat → Prop) (p : Nat) (vc ve : Value) (L : List (List Int)) (H : HeapIs w S p vc ve L.flatten (ends L)) (at0 : Int) (h : at0 < 1 ∨ (L.length : Int) < at0) :
    Calls Try.prog 24 #[.pointer (some ⟨p, 0, none⟩), .int .i64 at0] w (GotList vc 0 0 w) := by
  obtain ⟨A, cap, hv, _⟩ := rdv_row H.oe
  have q1 := H.c1
  rw [hv, ends_length] at q1
  by_cases h1 : at0 < 1
  · exact (list_low w p at0 h1).mono fun e w' ⟨h1, h2⟩ => ⟨none, h1, fun h => by omega, h2⟩
  · exact (list_high w p _ _ A at0 q1 h1 (by omega)).mono fun e w' ⟨h1, h2⟩ => ⟨none, h1, fun h => by omega, h2⟩

end Go.Proofs.Ytpighdioomjnmaa
