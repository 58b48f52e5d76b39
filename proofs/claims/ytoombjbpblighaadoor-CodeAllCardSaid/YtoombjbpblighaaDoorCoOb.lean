/-
  Layer 8: bytes that come in. Written by an AI agent.
-/
import Derived.Test.YtoombjbpblighaaDoorCoBk
import Derived.Test.YtoombjbpblighaaDoorCoO
import Derived.OpenShut
import Derived.ProofKit
import Derived.ProofKit
import Derived.OpenShut
import Derived.Deep.Matrix
import Derived.Deep.Strs
import Derived.WideShapes
import Derived.ChangeSlices
import Derived.Lib.SmallJoins
namespace Go.Proofs.YtoombjbpblighaaDoor
open Go Go.ChangeShapes Go.WideShapes Go.ChangeAt Go.RowKit Go.Joins Go.Deep
set_option linter.unusedVariables false

theorem cells5 : Tryd.prog.cellsOf 5 = 1 := by kernel_rfl
theorem bytes_cells {H : Type} {enc : TypeId × Value → H} {W : World} {fuel : Nat} {v : Value} {x : DataW H × List MemPlace} (hf : DataW.trod enc Tryd.prog W 0 (fun _ => true) true fuel 42 [v] = some x) :
    ∃ (A : Option Addr) (cap : Nat) (L : List Int), v = .slice A L.length cap ∧ L.length ≤ cap ∧ cap ≤ 9223372036854775807 ∧ (∀ a ∈ L, 0 ≤ a ∧ a < 256) ∧ RdB W W.heap.size A L := by
  rcases open_slice Tryd.underlying42 hf with ⟨hcs, _⟩ | ⟨a, l, c, m, n, D, Pl, hcs, _, hl, hm, hmm, _, hx⟩
  · simp at hcs
    subst hcs
    exact ⟨none, 0, [], rfl, by simp, by simp, fun _ h => absurd h (by simp), fun h => absurd h (Nat.lt_irrefl _)⟩
  · simp at hcs
    subst hcs
    have hlm : c ≤ 9223372036854775807 := by unfold maxLen at hm; omega
    rw [if_pos rfl] at hmm
    rw [cells5] at hx
    rcases Nat.eq_zero_or_pos l with h0 | h0
    · subst h0
      exact ⟨_, c, [], rfl, by simp, hlm, fun _ h => absurd h (by simp), fun h => absurd h (Nat.lt_irrefl _)⟩
    obtain ⟨b, off, spot⟩ := a
    have one : ∀ k, k < l → ∃ z : Int, (0 ≤ z ∧ z < 256) ∧ W.cell? ((⟨b, off, spot⟩ : Addr).add (k * 1)) = some (.int .u8 z) := fun k hk => by
      obtain ⟨cs1, hc1, ht1⟩ := hx k (by omega)
      obtain ⟨z, e, _, w0⟩ := DataW.trod_int Tryd.underlying5 ht1
      subst e
      obtain ⟨_, hlen, hcell⟩ := World.cells?_some hc1
      have r0 := hcell 0 (by omega)
      have bz := bounds_u8 w0
      refine ⟨z, by omega, ?_⟩
      simpa [Addr.add] using r0
    have hspot : spot = none := by
      obtain ⟨z, _, q0⟩ := one 0 h0
      simpa [Addr.add] using World.cell?_spot q0
    subst hspot
    have key : ∀ k, ∃ z : Int, k < l → (0 ≤ z ∧ z < 256) ∧ W.cell? ⟨b, off + k, none⟩ = some (.int .u8 z) := fun k => by
      rcases Nat.lt_or_ge k l with hk | hk
      · obtain ⟨z, hz, q0⟩ := one k hk
        exact ⟨z, fun _ => ⟨hz, by rw [addr_addk, Nat.mul_one] at q0; exact q0⟩⟩
      · exact ⟨0, fun h => by omega⟩
    have hch := Classical.axiomOfChoice key
    obtain ⟨f, hf'⟩ := hch
    have hLl : ((List.range l).map f).length = l := by simp
    have hLg : ∀ k, k < l → ((List.range l).map f).getD k 0 = f k := fun k hk => by
      rw [List.getD_eq_getElem?_getD, List.getElem?_map, List.getElem?_range hk]
      rfl
    refine ⟨some ⟨b, off, none⟩, c, (List.range l).map f, by rw [hLl], by omega, hlm, fun x hx2 => ?_, fun h0 => ⟨b, off, rfl, cell_ltk (hf' 0 (by rw [hLl] at h0; exact h0)).2, fun k hk => ?_⟩⟩
    · obtain ⟨k, hk, rfl⟩ := List.mem_map.1 hx2
      exact (hf' k (List.mem_range.1 hk)).1
    · rw [hLl] at hk
      rw [hLg k hk]
      exact (hf' k hk).2


end Go.Proofs.YtoombjbpblighaaDoor
