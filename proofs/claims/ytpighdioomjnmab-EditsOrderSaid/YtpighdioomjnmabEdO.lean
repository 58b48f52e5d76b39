/-
  Layer 16: edits that come in. Written by an AI agent.
-/
import Derived.Test.YtpighdioomjnmabEdB
import Derived.Test.YtpighdioomjnmabKpS
import Derived.ProofKit
import Derived.OpenShut
import Derived.Deep.Matrix
import Derived.Deep.Strs
import Derived.WideShapes
import Derived.ChangeSlices
import Derived.Lib.SmallJoins
namespace Go.Proofs.Ytpighdioomjnmab
open Go Go.ChangeShapes Go.WideShapes Go.ChangeAt Go.RowKit Go.Joins Go.Deep
set_option linter.unusedVariables false

theorem cells9 : Try.prog.cellsOf 9 = 1 := by kernel_rfl
theorem cells47 : Try.prog.cellsOf 47 = 3 := by kernel_rfl
theorem cells49 : Try.prog.cellsOf 49 = 5 := by kernel_rfl

/-- Cells that read as an edit. -/
theorem edit_cells {H : Type} {enc : TypeId × Value → H} {W : World} {base : Nat} {sp : Nat → Bool} {held : Bool} {n : Nat} {cs : List Value} {x : DataW H × List MemPlace} (h : DataW.trod enc Try.prog W base sp held n 49 cs = some x) :
    ∃ (t : Int) (nm : ByteArray) (ty k : Int) (s : ByteArray), cs = [.int .i64 t, .string nm, .int .i64 ty, .int .i64 k, .string s] := by
  obtain ⟨y0, y1, y2, m, _, hl, h0, h1, h2⟩ := trod_struct3 Try.underlying49 h
  rw [cells49] at hl
  match cs, hl with
  | [c0, c1, c2, c3, c4], _ =>
    have g0 : DataW.trod enc Try.prog W base sp held m 3 [c0] = some y0 := by simpa [cells3] using h0
    have g1 : DataW.trod enc Try.prog W base sp held m 9 [c1] = some y1 := by simpa [cells9] using h1
    have g2 : DataW.trod enc Try.prog W base sp held m 47 [c2, c3, c4] = some y2 := by simpa [cells47] using h2
    obtain ⟨z0, z1, z2, m', _, _, k0, k1, k2⟩ := trod_struct3 Try.underlying47 g2
    have r0 : DataW.trod enc Try.prog W base sp held m' 3 [c2] = some z0 := by simpa [cells3] using k0
    have r1 : DataW.trod enc Try.prog W base sp held m' 3 [c3] = some z1 := by simpa [cells3] using k1
    have r2 : DataW.trod enc Try.prog W base sp held m' 9 [c4] = some z2 := by simpa [cells9] using k2
    obtain ⟨x0, e0, _, _⟩ := DataW.trod_int Try.underlying3 g0
    obtain ⟨x1, e1, _, _⟩ := DataW.trod_string Try.underlying9 g1
    obtain ⟨x2, e2, _, _⟩ := DataW.trod_int Try.underlying3 r0
    obtain ⟨x3, e3, _, _⟩ := DataW.trod_int Try.underlying3 r1
    obtain ⟨x4, e4, _, _⟩ := DataW.trod_string Try.underlying9 r2
    obtain rfl := (List.cons.inj e0).1
    obtain rfl := (List.cons.inj e1).1
    obtain rfl := (List.cons.inj e2).1
    obtain rfl := (List.cons.inj e3).1
    obtain rfl := (List.cons.inj e4).1
    exact ⟨x0, x1, x2, x3, x4, rfl⟩

theorem open_edit {H : Type} {enc : TypeId × Value → H} {W : World} {r : Reach} {b0 : Nat} {v : Value} {d : DataW H} {p : List MemPlace} (hv : Value.okWide Try.prog W r b0 49 v) (h : DataW.Trod enc Try.prog W 0 (fun _ => true) true 49 v d p) :
    ∃ (t : Int) (nm : ByteArray) (ty k : Int) (s : ByteArray), v = .agg #[.int .i64 t, .string nm, .int .i64 ty, .int .i64 k, .string s] := by
  obtain ⟨cs, rfl, hsz⟩ := okWide_struct Try.underlying49 hv
  obtain ⟨fuel, hf⟩ := h
  obtain ⟨t, nm, ty, k, s, e⟩ := edit_cells hf
  refine ⟨t, nm, ty, k, s, ?_⟩
  have e2 : cs.toList = [.int .i64 t, .string nm, .int .i64 ty, .int .i64 k, .string s] := by simpa [Value.cells] using e
  have : cs = #[.int .i64 t, .string nm, .int .i64 ty, .int .i64 k, .string s] := by
    apply Array.toList_inj.1
    exact e2
  rw [this]

/-- A slice's cell that reads as edits. -/
theorem edits_cells {H : Type} {enc : TypeId × Value → H} {W : World} {fuel : Nat} {v : Value} {x : DataW H × List MemPlace} (hf : DataW.trod enc Try.prog W 0 (fun _ => true) true fuel 43 [v] = some x) :
    ∃ (A : Option Addr) (cap : Nat) (L : List Ed), v = .slice A L.length cap ∧ L.length ≤ 9223372036854775807 ∧ RdE W A L ∧ (A = none → L.length = 0) := by
  rcases open_slice Try.underlying43 hf with ⟨hcs, _⟩ | ⟨a, l, c, m, n, D, Pl, hcs, _, hl, hm, hmm, _, hx⟩
  · simp at hcs
    subst hcs
    exact ⟨none, 0, [], rfl, by simp, fun h => absurd h (Nat.lt_irrefl _), fun _ => rfl⟩
  · simp at hcs
    subst hcs
    have hlm : l ≤ 9223372036854775807 := by unfold maxLen at hm; omega
    rw [if_pos rfl] at hmm
    rw [cells49] at hx
    rcases Nat.eq_zero_or_pos l with h0 | h0
    · subst h0
      exact ⟨_, c, [], rfl, by simp, fun h => absurd h (Nat.lt_irrefl _), fun _ => rfl⟩
    obtain ⟨b, off, spot⟩ := a
    have hspot : spot = none := by
      obtain ⟨cs1, hc1, ht1⟩ := hx 0 (by omega)
      obtain ⟨t, nm, ty, q, s, rfl⟩ := edit_cells ht1
      obtain ⟨_, hlen, hcell⟩ := World.cells?_some hc1
      have h1 := hcell 0 (by omega)
      simpa [Addr.add] using World.cell?_spot h1
    subst hspot
    have key : ∀ k, ∃ e : Ed, k < l → W.cell? ⟨b, off + k * 5, none⟩ = some (.int .i64 e.t) ∧ W.cell? ⟨b, off + k * 5 + 1, none⟩ = some (.string e.nm) ∧ W.cell? ⟨b, off + k * 5 + 2, none⟩ = some (.int .i64 e.ty) ∧ W.cell? ⟨b, off + k * 5 + 3, none⟩ = some (.int .i64 e.n) ∧ W.cell? ⟨b, off + k * 5 + 4, none⟩ = some (.string e.s) := fun k => by
      rcases Nat.lt_or_ge k l with hk | hk
      · obtain ⟨cs1, hc1, ht1⟩ := hx k (by omega)
        obtain ⟨t, nm, ty, q, s, rfl⟩ := edit_cells ht1
        obtain ⟨_, hlen, hcell⟩ := World.cells?_some hc1
        have r0 := hcell 0 (by omega)
        have r1 := hcell 1 (by omega)
        have r2 := hcell 2 (by omega)
        have r3 := hcell 3 (by omega)
        have r4 := hcell 4 (by omega)
        simp only [addr_addk, Nat.add_zero] at r0 r1 r2 r3 r4
        exact ⟨⟨t, nm, ty, q, s⟩, fun _ => ⟨r0, r1, r2, r3, r4⟩⟩
      · exact ⟨default, fun h => by omega⟩
    obtain ⟨f, hf'⟩ : ∃ f : Nat → Ed, ∀ k, k < l → W.cell? ⟨b, off + k * 5, none⟩ = some (.int .i64 (f k).t) ∧ W.cell? ⟨b, off + k * 5 + 1, none⟩ = some (.string (f k).nm) ∧ W.cell? ⟨b, off + k * 5 + 2, none⟩ = some (.int .i64 (f k).ty) ∧ W.cell? ⟨b, off + k * 5 + 3, none⟩ = some (.int .i64 (f k).n) ∧ W.cell? ⟨b, off + k * 5 + 4, none⟩ = some (.string (f k).s) :=
      ⟨fun k => Classical.choose (key k), fun k hk => Classical.choose_spec (key k) hk⟩
    have hLl : ((List.range l).map f).length = l := by simp
    have hLg : ∀ k, k < l → ((List.range l).map f).getD k default = f k := fun k hk => by
      rw [List.getD_eq_getElem?_getD, List.getElem?_map, List.getElem?_range hk]
      rfl
    refine ⟨some ⟨b, off, none⟩, c, (List.range l).map f, by rw [hLl], by omega, fun _ => ⟨b, off, rfl, fun k hk => ?_⟩, fun h => by cases h⟩
    rw [hLl] at hk
    rw [hLg k hk]
    exact hf' k hk

theorem open_edits {H : Type} {enc : TypeId × Value → H} {W : World} {r : Reach} {b0 : Nat} {v : Value} {d : DataW H} {p : List MemPlace} (hv : Value.okWide Try.prog W r b0 43 v) (h : DataW.Trod enc Try.prog W 0 (fun _ => true) true 43 v d p) :
    ∃ (A : Option Addr) (cap : Nat) (L : List Ed), v = .slice A L.length cap ∧ L.length ≤ 9223372036854775807 ∧ RdE W A L ∧ (A = none → L.length = 0) := by
  obtain ⟨A, len, cap, rfl⟩ := okWide_slice Try.underlying43 hv
  obtain ⟨fuel, hf⟩ := h
  exact edits_cells (by simpa [Value.cells] using hf)

end Go.Proofs.Ytpighdioomjnmab
