/-
  Layer 16: the opener of a Cut. Written by an AI agent.
-/
import Derived.Test.YtpighdioomjnmabEdO
namespace Go.Proofs.Ytpighdioomjnmab
open Go Go.ChangeShapes Go.WideShapes Go.ChangeAt Go.RowKit Go.Joins Go.Deep
set_option linter.unusedVariables false

theorem cells60 : Try.prog.cellsOf 60 = 7 := by kernel_rfl

/-- Cells that read as two times and an edit. -/
theorem cut_cells {H : Type} {enc : TypeId × Value → H} {W : World} {base : Nat} {sp : Nat → Bool} {held : Bool} {n : Nat} {cs : List Value} {x : DataW H × List MemPlace} (h : DataW.trod enc Try.prog W base sp held n 60 cs = some x) :
    ∃ (t1 t2 t : Int) (nm : ByteArray) (ty k : Int) (s : ByteArray), cs = [.int .i64 t1, .int .i64 t2, .int .i64 t, .string nm, .int .i64 ty, .int .i64 k, .string s] := by
  obtain ⟨y0, y1, y2, m, _, hl, h0, h1, h2⟩ := trod_struct3 Try.underlying60 h
  rw [cells60] at hl
  match cs, hl with
  | [c0, c1, c2, c3, c4, c5, c6], _ =>
    have g0 : DataW.trod enc Try.prog W base sp held m 3 [c0] = some y0 := by simpa [cells3] using h0
    have g1 : DataW.trod enc Try.prog W base sp held m 3 [c1] = some y1 := by simpa [cells3] using h1
    have g2 : DataW.trod enc Try.prog W base sp held m 49 [c2, c3, c4, c5, c6] = some y2 := by simpa [cells3, cells49] using h2
    obtain ⟨x0, e0, _, _⟩ := DataW.trod_int Try.underlying3 g0
    obtain ⟨x1, e1, _, _⟩ := DataW.trod_int Try.underlying3 g1
    obtain ⟨t, nm, ty, k, s, e2⟩ := edit_cells g2
    obtain rfl := (List.cons.inj e0).1
    obtain rfl := (List.cons.inj e1).1
    exact ⟨x0, x1, t, nm, ty, k, s, by rw [e2]⟩

theorem open_cut {H : Type} {enc : TypeId × Value → H} {W : World} {r : Reach} {b0 : Nat} {v : Value} {d : DataW H} {p : List MemPlace} (hv : Value.okWide Try.prog W r b0 60 v) (h : DataW.Trod enc Try.prog W 0 (fun _ => true) true 60 v d p) :
    ∃ (t1 t2 t : Int) (nm : ByteArray) (ty k : Int) (s : ByteArray), v = .agg #[.int .i64 t1, .int .i64 t2, .int .i64 t, .string nm, .int .i64 ty, .int .i64 k, .string s] := by
  obtain ⟨cs, rfl, hsz⟩ := okWide_struct Try.underlying60 hv
  obtain ⟨fuel, hf⟩ := h
  obtain ⟨t1, t2, t, nm, ty, k, s, e⟩ := cut_cells hf
  refine ⟨t1, t2, t, nm, ty, k, s, ?_⟩
  have e2 : cs.toList = [.int .i64 t1, .int .i64 t2, .int .i64 t, .string nm, .int .i64 ty, .int .i64 k, .string s] := by simpa [Value.cells] using e
  have : cs = #[.int .i64 t1, .int .i64 t2, .int .i64 t, .string nm, .int .i64 ty, .int .i64 k, .string s] := by
    apply Array.toList_inj.1
    exact e2
  rw [this]

theorem cells56 : Try.prog.cellsOf 56 = 2 := by kernel_rfl
theorem cells43 : Try.prog.cellsOf 43 = 1 := by kernel_rfl

/-- A row of edits, and a time. -/
theorem open_third {H : Type} {enc : TypeId × Value → H} {W : World} {r : Reach} {b0 : Nat} {v : Value} {d : DataW H} {p : List MemPlace} (hv : Value.okWide Try.prog W r b0 56 v) (h : DataW.Trod enc Try.prog W 0 (fun _ => true) true 56 v d p) :
    ∃ (A : Option Addr) (cap : Nat) (L : List Ed) (t : Int), v = .agg #[.slice A L.length cap, .int .i64 t] ∧ L.length ≤ 9223372036854775807 ∧ RdE W A L ∧ (A = none → L.length = 0) := by
  obtain ⟨cs, rfl, hsz⟩ := okWide_struct Try.underlying56 hv
  obtain ⟨fuel, hf⟩ := h
  obtain ⟨y0, y1, m, _, hl, h0, h1⟩ := trod_struct2 Try.underlying56 hf
  rw [cells56] at hl
  have hl' : cs.toList.length = 2 := by simpa [Value.cells] using hl
  obtain ⟨c0, c1, e⟩ : ∃ c0 c1, cs.toList = [c0, c1] := by
    match h : cs.toList, hl' with
    | [c0, c1], _ => exact ⟨c0, c1, rfl⟩
  have hcs : cs = #[c0, c1] := by
    apply Array.toList_inj.1
    exact e
  subst hcs
  have g0 : DataW.trod enc Try.prog W 0 (fun _ => true) true m 43 [c0] = some y0 := by simpa [Value.cells, cells43] using h0
  have g1 : DataW.trod enc Try.prog W 0 (fun _ => true) true m 3 [c1] = some y1 := by simpa [Value.cells, cells43, cells3] using h1
  obtain ⟨A, cap, L, rfl, q1, q2, q3⟩ := edits_cells g0
  obtain ⟨x1, e1, _, _⟩ := DataW.trod_int Try.underlying3 g1
  obtain rfl := (List.cons.inj e1).1
  exact ⟨A, cap, L, x1, rfl, q1, q2, q3⟩

end Go.Proofs.Ytpighdioomjnmab
