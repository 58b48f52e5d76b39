/-
  Layer 5: the contract of signs. Written by an AI agent.
-/
import Derived.Test.YtpighdioomjnmaaDoorValD
namespace Go.Proofs.YtpighdioomjnmaaDoor.textsof
open Go.RowKit

/-- All signs, in their order. -/
def sg (k : Nat) : ByteArray := ([{ data := #[43] }, { data := #[45] }, { data := #[42] }, { data := #[47] }, { data := #[37] }, { data := #[60] }, { data := #[60, 61] }, { data := #[61, 61] }, { data := #[33, 61] }, { data := #[124, 124] }, { data := #[38, 38] }, { data := #[33] }, { data := #[63] }] : List ByteArray).getD k { data := #[] }
set_option maxHeartbeats 400000 in
theorem signs_any (w : World) :
    Calls Tryd.prog 12 #[] w fun e w' => e = .returned (.slice (some ⟨w.heap.size, 0, none⟩) 13 13) ∧ (∀ k, k < 13 → w'.cell? ⟨w.heap.size, k, none⟩ = some (.string (sg k))) ∧ w.heap.size < w'.heap.size ∧ Below w.heap.size w w' := by
  go_enter Tryd.func12, Tryd.ntmps12
  go_wp2
  refine bodyPost_ret (v := .slice (some ⟨w.heap.size, 0, none⟩) 13 13) (by simp [results, Tryd.results12, go_sem]) rfl ⟨rfl, ?_, by simp, (Below.refl _ _).alloc (Nat.le_refl _) _⟩
  intro k hk
  have hc : (w.alloc (.cells #[.string { data := #[43] }, .string { data := #[45] }, .string { data := #[42] }, .string { data := #[47] }, .string { data := #[37] }, .string { data := #[60] }, .string { data := #[60, 61] }, .string { data := #[61, 61] }, .string { data := #[33, 61] }, .string { data := #[124, 124] }, .string { data := #[38, 38] }, .string { data := #[33] }, .string { data := #[63] }] 9)).cell? ⟨w.heap.size, k, none⟩ = (#[.string { data := #[43] }, .string { data := #[45] }, .string { data := #[42] }, .string { data := #[47] }, .string { data := #[37] }, .string { data := #[60] }, .string { data := #[60, 61] }, .string { data := #[61, 61] }, .string { data := #[33, 61] }, .string { data := #[124, 124] }, .string { data := #[38, 38] }, .string { data := #[33] }, .string { data := #[63] }] : Array Value)[k]? := by simp
  rw [hc]
  have : k = 0 ∨ k = 1 ∨ k = 2 ∨ k = 3 ∨ k = 4 ∨ k = 5 ∨ k = 6 ∨ k = 7 ∨ k = 8 ∨ k = 9 ∨ k = 10 ∨ k = 11 ∨ k = 12 := by omega
  rcases this with rfl | rfl | rfl | rfl | rfl | rfl | rfl | rfl | rfl | rfl | rfl | rfl | rfl <;> rfl
end Go.Proofs.YtpighdioomjnmaaDoor.textsof
