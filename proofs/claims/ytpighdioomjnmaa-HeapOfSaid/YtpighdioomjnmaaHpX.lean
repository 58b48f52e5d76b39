/-
  Layer 10: lists of numbers that come in. Written by an AI agent.
-/
import Derived.Test.YtpighdioomjnmaaHpN
import Derived.Test.YtpighdioomjnmaaHpW
import Derived.Deep.Matrix
namespace Go.Proofs.Ytpighdioomjnmaa
open Go Go.ChangeShapes Go.WideShapes Go.ChangeAt Go.RowKit Go.Joins Go.Deep
set_option linter.unusedVariables false

theorem addr_add (b off i : Nat) : (⟨b, off, none⟩ : Addr).add i = ⟨b, off + i, none⟩ := by unfold Addr.add; split <;> simp_all

theorem open_lists {H : Type} {enc : TypeId × Value → H} {W : World} {r : Reach} {b0 : Nat} {v : Value} {d : DataW H} {p : List MemPlace} (hv : Value.okWide Try.prog W r b0 27 v) (h : DataW.Trod enc Try.prog W 0 (fun _ => true) true 27 v d p) :
    ∃ (A : Option Addr) (len cap : Nat) (L : List (List Int)), v = .slice A len cap ∧ L.length = len ∧ len ≤ 9223372036854775807 ∧ (∀ i, (L.getD i []).length ≤ 9223372036854775807) ∧ ArgL W A L := by
  obtain ⟨A, len, cap, rfl⟩ := okWide_slice Try.underlying27 hv
  obtain ⟨fuel, hf⟩ := h
  rcases open_int_rows Try.underlying27 Try.underlying41 Try.underlying3 (by kernel_rfl) (by kernel_rfl) hf with ⟨hcs, _⟩ | ⟨a, l, c, A2, L2, C2, Z2, hcs, _, hl, hm, _, hrow⟩
  · simp [Value.cells] at hcs
    obtain ⟨rfl, rfl, rfl⟩ := hcs
    exact ⟨none, 0, 0, [], rfl, rfl, by omega, fun i => by simp, fun h => absurd h (Nat.lt_irrefl _)⟩
  · simp [Value.cells] at hcs
    obtain ⟨rfl, rfl, rfl⟩ := hcs
    have hget : ∀ i, i < len → ((List.range len).map fun r => (Z2 r).take (L2 r)).getD i [] = (Z2 i).take (L2 i) := fun i hi => by
      rw [List.getD_eq_getElem?_getD, List.getElem?_map, List.getElem?_range hi]
      rfl
    have hlen : ∀ i, i < len → ((Z2 i).take (L2 i)).length = L2 i := fun i hi => by
      obtain ⟨_, h1, _, h2, _⟩ := hrow i (by omega)
      rw [List.length_take]
      omega
    refine ⟨_, _, _, (List.range len).map fun r => (Z2 r).take (L2 r), rfl, by simp, by unfold maxLen at hm; omega, fun i => ?_, fun h0 => ?_⟩
    · rcases Nat.lt_or_ge i len with hi | hi
      · rw [hget i hi, hlen i hi]
        obtain ⟨_, h1, h2, _⟩ := hrow i (by omega)
        unfold maxLen at h2
        omega
      · rw [List.getD_eq_getElem?_getD, List.getElem?_eq_none (by simpa using hi)]
        simp
    · have h0' : 0 < len := by simpa using h0
      obtain ⟨b, off, spot⟩ := a
      have hc := (hrow 0 (by omega)).1
      have hspot : spot = none := by simpa [Addr.add] using World.cell?_spot hc
      subst hspot
      refine ⟨b, off, rfl, fun i hi => ?_⟩
      have hi' : i < len := by simpa using hi
      obtain ⟨g1, g2, g3, g4, _, g5, g6⟩ := hrow i (by omega)
      rw [addr_add] at g1
      rw [hget i hi', hlen i hi']
      refine ⟨A2 i, C2 i, g1, g2, g3, g5, fun hn => ?_⟩
      rw [iv_length, hlen i hi'] at hn
      cases hA : A2 i with
      | none => have := g5 hA; omega
      | some a' =>
        obtain ⟨_, g7⟩ := g6 a' hA
        obtain ⟨b2, o2, s2⟩ := a'
        have hs2 : s2 = none := by simpa [Addr.add] using World.cell?_spot (g7 0 (by omega))
        subst hs2
        refine ⟨b2, o2, rfl, fun j hj => ?_⟩
        rw [iv_length, hlen i hi'] at hj
        have hc2 := g7 j (by omega)
        rw [addr_add] at hc2
        rw [hc2, iv_at (by rw [hlen i hi']; exact hj), List.getD_eq_getElem?_getD, List.getD_eq_getElem?_getD, List.getElem?_take, if_pos hj]

end Go.Proofs.Ytpighdioomjnmaa
