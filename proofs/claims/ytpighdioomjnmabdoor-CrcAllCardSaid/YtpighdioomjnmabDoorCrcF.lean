/-
  Layer 20: from the arguments' reading, and from the row's condition, to what the walks ask. Written by an AI agent.
-/
import Derived.Test.YtpighdioomjnmabDoorRows
import Derived.Test.YtpighdioomjnmabDoorCrcD
import Derived.ProofKit
import Derived.LaidMore
import Derived.OpenShut
import Derived.Lib.LaidTab
import Derived.Stop.Joined
namespace Go.Proofs.YtpighdioomjnmabDoor
open Go Go.ChangeShapes Go.WideShapes Go.ChangeAt Go.RowKit

theorem u8_nat {z : Int} (h : (Lit.int .u8 z).wf = true) : z = ((z.toNat : Nat) : Int) ∧ z.toNat < 256 := by
  have := bounds_u8 h
  omega
theorem rd_of_ints {W : World} {x : Addr} {len : Nat} {zs : List Int} {cap : Nat} (hl : len ≤ cap) (hz : zs.length = cap) (hcell : ∀ i, i < zs.length → W.cell? (x.add i) = some (.int .u8 (zs.getD i 0))) (hwz : ∀ n ∈ zs, (Lit.int .u8 n).wf = true) :
    ((zs.take len).map Int.toNat).length = len ∧ (∀ v ∈ (zs.take len).map Int.toNat, v < 256) ∧ Rd W W.heap.size (some x) ((zs.take len).map Int.toNat) := by
  have e1 : ((zs.take len).map Int.toNat).length = len := by simp; omega
  refine ⟨e1, fun v hv => ?_, fun hn => ?_⟩
  · obtain ⟨z, hz1, rfl⟩ := List.mem_map.1 hv
    exact (u8_nat (hwz z (List.mem_of_mem_take hz1))).2
  · rw [e1] at hn
    obtain ⟨b, off, spot⟩ := x
    have hc := hcell 0 (by omega)
    have hspot : spot = none := by simpa [Addr.add] using World.cell?_spot hc
    subst hspot
    have hlt : b < W.heap.size := by simpa [Addr.add] using World.block_lt_of_cell? W _ hc
    refine ⟨b, off, rfl, hlt, fun i hi => ?_⟩
    rw [e1] at hi
    have hci := hcell i (by omega)
    rw [show (⟨b, off, none⟩ : Addr).add i = ⟨b, off + i, none⟩ from by unfold Addr.add; split <;> simp_all] at hci
    rw [hci, getD_at _ (by rw [e1]; exact hi)]
    have hzi : zs.getD i 0 = zs[i]'(by omega) := by rw [List.getD_eq_getElem?_getD, List.getElem?_eq_getElem (by omega)]; rfl
    have := (u8_nat (hwz (zs[i]'(by omega)) (List.getElem_mem (by omega)))).1
    rw [hzi, this]
    simp
theorem gHalves : Tryd.prog.globalNamed "furcate/crc.halves" = some 0 := by kernel_rfl
theorem tHalves : (Tryd.prog.globals[0]?).map (·.type) = some 37 := by kernel_rfl
def tabI : List Int := tabL.map fun v => ((v : Nat) : Int)
theorem hasTab_of_laid {W : World} (h : laidMetH Tryd.prog [("furcate/crc.halves", Rows.laid_furcate_crc_halves)] W) : HasTab W ∧ 0 < W.heap.size := by
  rw [MakeChecks.laidMetH_plain _ _ _ (by kernel_rfl)] at h
  have hT : Lib.TabIs Tryd.prog W "furcate/crc.halves" .u32 tabI := Lib.tabIs_of_head gHalves tHalves Tryd.underlying37 Tryd.underlying23 (by kernel_rfl) (by kernel_rfl) h
  have ht : HasTab W := fun i hi => by
    rw [hT.cell gHalves i (by simp [tabI, tabL]; omega)]
    have : ∀ i, i < 16 → tabI.getD i 0 = ((tabN i : Nat) : Int) := by decide
    rw [this i hi]
  exact ⟨ht, by simpa using World.block_lt_of_cell? W _ (ht 0 (by omega))⟩
theorem u32_nat {z : Int} (h : (Lit.int .u32 z).wf = true) : ∃ n : Nat, z = (n : Int) ∧ n < 4294967296 := by
  have := bounds_u32 h
  exact ⟨z.toNat, by omega, by omega⟩
end Go.Proofs.YtpighdioomjnmabDoor
