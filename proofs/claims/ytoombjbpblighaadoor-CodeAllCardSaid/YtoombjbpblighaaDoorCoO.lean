/-
  Layer 8: a code that comes in. Written by an AI agent.
-/
import Derived.Test.YtoombjbpblighaaDoorCoL
import Derived.ProofKit
import Derived.OpenShut
import Derived.Deep.Matrix
import Derived.Deep.Strs
import Derived.WideShapes
import Derived.ChangeSlices
import Derived.Lib.SmallJoins
namespace Go.Proofs.YtoombjbpblighaaDoor
open Go Go.ChangeShapes Go.WideShapes Go.ChangeAt Go.RowKit Go.Joins Go.Deep
set_option linter.unusedVariables false

theorem addr_addk (b off i : Nat) : (⟨b, off, none⟩ : Addr).add i = ⟨b, off + i, none⟩ := by unfold Addr.add; split <;> simp_all
theorem cells3 : Tryd.prog.cellsOf 3 = 1 := by kernel_rfl
theorem cells9 : Tryd.prog.cellsOf 9 = 1 := by kernel_rfl
theorem cells38 : Tryd.prog.cellsOf 38 = 1 := by kernel_rfl
theorem cells39 : Tryd.prog.cellsOf 39 = 1 := by kernel_rfl
theorem cells52 : Tryd.prog.cellsOf 52 = 4 := by kernel_rfl

set_option maxRecDepth 100000 in
/-- Cells that read as an instruction. -/
theorem ins_cells {H : Type} {enc : TypeId × Value → H} {W : World} {base : Nat} {sp : Nat → Bool} {held : Bool} {n : Nat} {cs : List Value} {x : DataW H × List MemPlace} (h : DataW.trod enc Tryd.prog W base sp held n 52 cs = some x) :
    ∃ y : Ins, InsR y ∧ cs = [.int .i64 y.o, .int .i64 y.a, .int .i64 y.b, .string y.s] := by
  obtain ⟨y0, y1, y2, y3, m, _, hl, h0, h1, h2, h3⟩ := trod_struct4 Tryd.underlying52 h
  rw [cells52] at hl
  match cs, hl with
  | [c0, c1, c2, c3], _ =>
    have g0 : DataW.trod enc Tryd.prog W base sp held m 3 [c0] = some y0 := by simpa [cells3] using h0
    have g1 : DataW.trod enc Tryd.prog W base sp held m 3 [c1] = some y1 := by simpa [cells3] using h1
    have g2 : DataW.trod enc Tryd.prog W base sp held m 3 [c2] = some y2 := by simpa [cells3] using h2
    have g3 : DataW.trod enc Tryd.prog W base sp held m 9 [c3] = some y3 := by simpa [cells9] using h3
    obtain ⟨x0, e0, _, w0⟩ := DataW.trod_int Tryd.underlying3 g0
    obtain ⟨x1, e1, _, w1⟩ := DataW.trod_int Tryd.underlying3 g1
    obtain ⟨x2, e2, _, w2⟩ := DataW.trod_int Tryd.underlying3 g2
    obtain ⟨x3, e3, _, _⟩ := DataW.trod_string Tryd.underlying9 g3
    obtain rfl := (List.cons.inj e0).1
    obtain rfl := (List.cons.inj e1).1
    obtain rfl := (List.cons.inj e2).1
    obtain rfl := (List.cons.inj e3).1
    have b0 := bounds_i64 w0
    have b1 := bounds_i64 w1
    have b2 := bounds_i64 w2
    exact ⟨⟨x0, x1, x2, x3⟩, ⟨b0.1, b0.2, b1.1, b1.2, b2.1, b2.2⟩, rfl⟩

/-- A slice's cell that reads as instructions. -/
theorem inss_cells {H : Type} {enc : TypeId × Value → H} {W : World} {fuel : Nat} {v : Value} {x : DataW H × List MemPlace} (hf : DataW.trod enc Tryd.prog W 0 (fun _ => true) true fuel 38 [v] = some x) :
    ∃ (A : Option Addr) (cap : Nat) (L : List Ins), v = .slice A L.length cap ∧ L.length ≤ 9223372036854775807 ∧ (∀ x ∈ L, InsR x) ∧ RdI W A L := by
  rcases open_slice Tryd.underlying38 hf with ⟨hcs, _⟩ | ⟨a, l, c, m, n, D, Pl, hcs, _, hl, hm, hmm, _, hx⟩
  · simp at hcs
    subst hcs
    exact ⟨none, 0, [], rfl, by simp, fun _ h => absurd h (by simp), fun h => absurd h (Nat.lt_irrefl _)⟩
  · simp at hcs
    subst hcs
    have hlm : l ≤ 9223372036854775807 := by unfold maxLen at hm; omega
    rw [if_pos rfl] at hmm
    rw [cells52] at hx
    rcases Nat.eq_zero_or_pos l with h0 | h0
    · subst h0
      exact ⟨_, c, [], rfl, by simp, fun _ h => absurd h (by simp), fun h => absurd h (Nat.lt_irrefl _)⟩
    obtain ⟨b, off, spot⟩ := a
    have hspot : spot = none := by
      obtain ⟨cs1, hc1, ht1⟩ := hx 0 (by omega)
      obtain ⟨y, _, rfl⟩ := ins_cells ht1
      obtain ⟨_, hlen, hcell⟩ := World.cells?_some hc1
      have h1 := hcell 0 (by omega)
      simpa [Addr.add] using World.cell?_spot h1
    subst hspot
    have key : ∀ k, ∃ e : Ins, k < l → InsR e ∧ W.cell? ⟨b, off + k * 4, none⟩ = some (.int .i64 e.o) ∧ W.cell? ⟨b, off + k * 4 + 1, none⟩ = some (.int .i64 e.a) ∧ W.cell? ⟨b, off + k * 4 + 2, none⟩ = some (.int .i64 e.b) ∧ W.cell? ⟨b, off + k * 4 + 3, none⟩ = some (.string e.s) := fun k => by
      rcases Nat.lt_or_ge k l with hk | hk
      · obtain ⟨cs1, hc1, ht1⟩ := hx k (by omega)
        obtain ⟨y, hy, rfl⟩ := ins_cells ht1
        obtain ⟨_, hlen, hcell⟩ := World.cells?_some hc1
        have r0 := hcell 0 (by omega)
        have r1 := hcell 1 (by omega)
        have r2 := hcell 2 (by omega)
        have r3 := hcell 3 (by omega)
        simp only [addr_addk, Nat.add_zero] at r0 r1 r2 r3
        exact ⟨y, fun _ => ⟨hy, r0, r1, r2, r3⟩⟩
      · exact ⟨default, fun h => by omega⟩
    have hch := Classical.axiomOfChoice key
    obtain ⟨f, hf'⟩ := hch
    have hLl : ((List.range l).map f).length = l := by simp
    have hLg : ∀ k, k < l → ((List.range l).map f).getD k default = f k := fun k hk => by
      rw [List.getD_eq_getElem?_getD, List.getElem?_map, List.getElem?_range hk]
      rfl
    refine ⟨some ⟨b, off, none⟩, c, (List.range l).map f, by rw [hLl], by omega, fun x hx2 => ?_, fun _ => ⟨b, off, rfl, fun k hk => ?_⟩⟩
    · obtain ⟨k, hk, rfl⟩ := List.mem_map.1 hx2
      exact (hf' k (List.mem_range.1 hk)).1
    · rw [hLl] at hk
      rw [hLg k hk]
      exact (hf' k hk).2

/-- A slice's cell that reads as integers. -/
theorem ints_cells {H : Type} {enc : TypeId × Value → H} {W : World} {fuel : Nat} {v : Value} {x : DataW H × List MemPlace} (hf : DataW.trod enc Tryd.prog W 0 (fun _ => true) true fuel 39 [v] = some x) :
    ∃ (A : Option Addr) (cap : Nat) (L : List Int), v = .slice A L.length cap ∧ L.length ≤ cap ∧ cap ≤ 9223372036854775807 ∧ (∀ a ∈ L, -9223372036854775808 ≤ a ∧ a ≤ 9223372036854775807) ∧ RdZ W A L := by
  rcases open_slice Tryd.underlying39 hf with ⟨hcs, _⟩ | ⟨a, l, c, m, n, D, Pl, hcs, _, hl, hm, hmm, _, hx⟩
  · simp at hcs
    subst hcs
    exact ⟨none, 0, [], rfl, by simp, by simp, fun _ h => absurd h (by simp), fun h => absurd h (Nat.lt_irrefl _)⟩
  · simp at hcs
    subst hcs
    have hlm : c ≤ 9223372036854775807 := by unfold maxLen at hm; omega
    rw [if_pos rfl] at hmm
    rw [cells3] at hx
    rcases Nat.eq_zero_or_pos l with h0 | h0
    · subst h0
      exact ⟨_, c, [], rfl, by simp, hlm, fun _ h => absurd h (by simp), fun h => absurd h (Nat.lt_irrefl _)⟩
    obtain ⟨b, off, spot⟩ := a
    have one : ∀ k, k < l → ∃ z : Int, (-9223372036854775808 ≤ z ∧ z ≤ 9223372036854775807) ∧ W.cell? ((⟨b, off, spot⟩ : Addr).add (k * 1)) = some (.int .i64 z) := fun k hk => by
      obtain ⟨cs1, hc1, ht1⟩ := hx k (by omega)
      obtain ⟨z, e, _, w0⟩ := DataW.trod_int Tryd.underlying3 ht1
      subst e
      obtain ⟨_, hlen, hcell⟩ := World.cells?_some hc1
      have r0 := hcell 0 (by omega)
      have bz := bounds_i64 w0
      refine ⟨z, ⟨bz.1, bz.2⟩, ?_⟩
      simpa [Addr.add] using r0
    have hspot : spot = none := by
      obtain ⟨z, _, q0⟩ := one 0 h0
      simpa [Addr.add] using World.cell?_spot q0
    subst hspot
    have key : ∀ k, ∃ z : Int, k < l → (-9223372036854775808 ≤ z ∧ z ≤ 9223372036854775807) ∧ W.cell? ⟨b, off + k, none⟩ = some (.int .i64 z) := fun k => by
      rcases Nat.lt_or_ge k l with hk | hk
      · obtain ⟨z, hz, q0⟩ := one k hk
        exact ⟨z, fun _ => ⟨hz, by rw [addr_addk, Nat.mul_one] at q0; exact q0⟩⟩
      · exact ⟨0, fun h => by omega⟩
    have hch := Classical.axiomOfChoice key
    obtain ⟨f, hf'⟩ := hch
    have hLl : ((List.range l).map f).length = l := by simp
    have hLg : ∀ k, k < l → ((List.range l).map f).getD k 0 = f k := fun k hk => by
      rw [List.getD_eq_getElem?_getD, List.getElem?_map, List.getElem?_range hk]
      rfl
    refine ⟨some ⟨b, off, none⟩, c, (List.range l).map f, by rw [hLl], by omega, hlm, fun x hx2 => ?_, fun _ => ⟨b, off, rfl, fun k hk => ?_⟩⟩
    · obtain ⟨k, hk, rfl⟩ := List.mem_map.1 hx2
      exact (hf' k (List.mem_range.1 hk)).1
    · rw [hLl] at hk
      rw [hLg k hk]
      exact (hf' k hk).2

set_option maxRecDepth 100000 in
/-- A code: its instructions and its entries. -/
theorem open_code {H : Type} {enc : TypeId × Value → H} {W : World} {r : Reach} {b0 : Nat} {v : Value} {d : DataW H} {p : List MemPlace} (hv : Value.okWide Tryd.prog W r b0 41 v) (h : DataW.Trod enc Tryd.prog W 0 (fun _ => true) true 41 v d p) :
    ∃ (I : Option Addr) (c : Nat) (L : List Ins) (E : Option Addr) (d : Nat) (Z : List Int), v = .agg #[.slice I L.length c, .slice E Z.length d] ∧ L.length ≤ 9223372036854775807 ∧ Z.length ≤ d ∧ d ≤ 9223372036854775807 ∧ (∀ x ∈ L, InsR x) ∧ (∀ a ∈ Z, -9223372036854775808 ≤ a ∧ a ≤ 9223372036854775807) ∧ RdI W I L ∧ RdZ W E Z := by
  obtain ⟨v0, v1, y0, y1, m, rfl, _, _, g0, g1⟩ := open_agg2 Tryd.underlying41 (by kernel_rfl) (by kernel_rfl) hv h
  obtain ⟨I, c, L, rfl, q1, q2, q3⟩ := inss_cells g0
  obtain ⟨E, d, Z, rfl, r1, r2, r3, r4⟩ := ints_cells g1
  exact ⟨I, c, L, E, d, Z, rfl, q1, r1, r2, q2, r3, q3, r4⟩

end Go.Proofs.YtoombjbpblighaaDoor
