/-
  Layer 10: from a row's arguments to the walks' premises. Written by an AI agent.
-/
import Derived.Test.YtpighdioomjnmaaHpK
import Derived.OpenShut
import Derived.ChangeSlices
import Derived.Lib.SmallJoins
import Derived.WideShapes
namespace Go.Proofs.Ytpighdioomjnmaa
open Go Go.ChangeShapes Go.WideShapes Go.ChangeAt Go.RowKit Go.Joins
set_option linter.unusedVariables false

theorem u8_nat {z : Int} (h : (Lit.int .u8 z).wf = true) : ((z.toNat : Nat) : Int) = z ∧ z.toNat < 256 := by
  have := bounds_u8 h
  omega

theorem bytes_of_ints {W : World} {x : Addr} {len : Nat} {zs : List Int} {cap : Nat} (hl : len ≤ cap) (hz : zs.length = cap) (hcell : ∀ i, i < zs.length → W.cell? (x.add i) = some (.int .u8 (zs.getD i 0))) (hwz : ∀ n ∈ zs, (Lit.int .u8 n).wf = true) :
    ((zs.take len).map Int.toNat).length = len ∧ (∀ v ∈ (zs.take len).map Int.toNat, v < 256) ∧ BytesAt W (some x) ((zs.take len).map Int.toNat) := by
  have e1 : ((zs.take len).map Int.toNat).length = len := by simp; omega
  refine ⟨e1, fun v hv => ?_, fun hn => ?_⟩
  · obtain ⟨z, hz1, rfl⟩ := List.mem_map.1 hv
    exact (u8_nat (hwz z (List.mem_of_mem_take hz1))).2
  · rw [e1] at hn
    obtain ⟨b, off, spot⟩ := x
    have hc := hcell 0 (by omega)
    have hspot : spot = none := by simpa [Addr.add] using World.cell?_spot hc
    subst hspot
    have hlt : b < W.heap.size := by simpa [Addr.add] using World.block_lt_of_cell? W _ hc
    refine ⟨b, off, rfl, hlt, fun i hi => ?_⟩
    rw [e1] at hi
    have hci := hcell i (by omega)
    rw [show (⟨b, off, none⟩ : Addr).add i = ⟨b, off + i, none⟩ from by unfold Addr.add; split <;> simp_all] at hci
    have hzi : zs.getD i 0 = zs[i]'(by omega) := by rw [List.getD_eq_getElem?_getD, List.getElem?_eq_getElem (by omega)]; rfl
    have := (u8_nat (hwz (zs[i]'(by omega)) (List.getElem_mem (by omega)))).1
    rw [hci, hzi, List.getD_eq_getElem?_getD, List.getElem?_map, List.getElem?_take, if_pos hi, List.getElem?_eq_getElem (by omega)]
    simp only [Option.map_some, Option.getD_some]
    rw [this]

theorem open_bytes {H : Type} {enc : TypeId × Value → H} {W : World} {r : Reach} {b0 : Nat} {v : Value} {d : DataW H} {p : List MemPlace} (hv : Value.okWide Try.prog W r b0 47 v) (h : DataW.Trod enc Try.prog W 0 (fun _ => true) true 47 v d p) :
    ∃ (A : Option Addr) (len cap : Nat) (l : List Nat), v = .slice A len cap ∧ l.length = len ∧ len ≤ 9223372036854775807 ∧ (∀ v ∈ l, v < 256) ∧ BytesAt W A l := by
  obtain ⟨A, len, cap, rfl⟩ := okWide_slice Try.underlying47 hv
  obtain ⟨fuel, hf⟩ := h
  rcases open_ints Try.underlying47 Try.underlying5 (by kernel_rfl) hf with ⟨hcs, _⟩ | ⟨x, l, c, zs, hcs, _, hl, hm, hz, _, hcell, hwz⟩
  · simp [Value.cells] at hcs
    obtain ⟨rfl, rfl, rfl⟩ := hcs
    exact ⟨none, 0, 0, [], rfl, rfl, by omega, by simp, fun h => by simp at h⟩
  · simp [Value.cells] at hcs
    obtain ⟨rfl, rfl, rfl⟩ := hcs
    obtain ⟨e1, e2, e3⟩ := bytes_of_ints hl (by simpa using hz) hcell hwz
    exact ⟨_, _, _, _, rfl, e1, by unfold maxLen at hm; omega, e2, e3⟩

theorem open_arr2 {H : Type} {enc : TypeId × Value → H} {W : World} {r : Reach} {b0 base : Nat} {sp : Nat → Bool} {held : Bool} {t e : TypeId} {q : IntKind} {v : Value} {d : DataW H} {p : List MemPlace} (ht : Try.prog.underlying t = some (.array 2 e)) (he : Try.prog.underlying e = some (.int q)) (hce : Try.prog.cellsOf e = 1) (hct : Try.prog.cellsOf t = 2)
    (hv : Value.okWide Try.prog W r b0 t v) (h : DataW.Trod enc Try.prog W base sp held t v d p) :
    ∃ a0 a1 : Int, v = .agg #[.int q a0, .int q a1] ∧ (Lit.int q a0).wf = true ∧ (Lit.int q a1).wf = true := by
  simp only [Value.okWide, ht] at hv
  obtain ⟨cs, rfl, hsz, _⟩ := hv
  obtain ⟨c0, c1, rfl⟩ := array2 (hsz.trans hct)
  obtain ⟨fuel, hf⟩ := h
  obtain ⟨xs, m, _, _, _, hxl, hx⟩ := DataW.trod_array ht hf
  have h0 := hx 0 (by omega)
  have h1 := hx 1 (by omega)
  rw [hce, List.getElem?_eq_getElem (by omega)] at h0 h1
  obtain ⟨a0, e0, _, w0⟩ := DataW.trod_int he h0
  obtain ⟨a1, e1, _, w1⟩ := DataW.trod_int he h1
  refine ⟨a0, a1, ?_, w0, w1⟩
  simp [Value.cells] at e0 e1
  rw [e0, e1]

end Go.Proofs.Ytpighdioomjnmaa
