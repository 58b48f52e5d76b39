/-
  Layer 22: what is asked for, as it comes in. Written by an AI agent.
-/
import Derived.Test.YtoombjbpblighabDoorWoQ
import Derived.ProofKit
import Derived.OpenShut
import Derived.Deep.Matrix
import Derived.Deep.Strs
import Derived.WideShapes
import Derived.ChangeSlices
import Derived.Lib.SmallJoins
namespace Go.Proofs.YtoombjbpblighabDoor
open Go Go.ChangeShapes Go.WideShapes Go.ChangeAt Go.RowKit Go.Joins Go.Deep
set_option linter.unusedVariables false

theorem c3 : Tryd.prog.cellsOf 3 = 1 := by kernel_rfl
theorem c9 : Tryd.prog.cellsOf 9 = 1 := by kernel_rfl
theorem c23 : Tryd.prog.cellsOf 23 = 3 := by kernel_rfl
theorem c25 : Tryd.prog.cellsOf 25 = 7 := by kernel_rfl
theorem array7 {α : Type} {cs : Array α} (h : cs.size = 7) : ∃ c0 c1 c2 c3 c4 c5 c6, cs = #[c0, c1, c2, c3, c4, c5, c6] := by
  obtain ⟨l⟩ := cs
  match l, h with
  | [c0, c1, c2, c3, c4, c5, c6], _ => exact ⟨c0, c1, c2, c3, c4, c5, c6, rfl⟩
theorem list5 {α : Type} {xs : List α} (h : xs.length = 5) : ∃ y0 y1 y2 y3 y4, xs = [y0, y1, y2, y3, y4] := by
  match xs, h with
  | [y0, y1, y2, y3, y4], _ => exact ⟨y0, y1, y2, y3, y4, rfl⟩
set_option maxRecDepth 100000 in
theorem open_cmd {H : Type} {enc : TypeId × Value → H} {W : World} {r : Reach} {b0 base : Nat} {sp : Nat → Bool} {held : Bool} {v : Value} {d : DataW H} {p : List MemPlace} (hv : Value.okWide Tryd.prog W r b0 25 v) (h : DataW.Trod enc Tryd.prog W base sp held 25 v d p) : ∃ c : Cm, v = cmdV c ∧ Rng c.n ∧ Rng c.v.n := by
  obtain ⟨cs, rfl, hsz⟩ := okWide_struct Tryd.underlying25 hv
  obtain ⟨k0, k1, k2, k3, k4, k5, k6, rfl⟩ := array7 (hsz.trans c25)
  obtain ⟨fuel, hf⟩ := h
  obtain ⟨xs, n, _, _, _, hlen, hx⟩ := DataW.trod_struct Tryd.underlying25 hf
  obtain ⟨y0, y1, y2, y3, y4, rfl⟩ := list5 hlen
  have g0 : DataW.trod enc Tryd.prog W base sp held n 9 [k0] = some y0 := by simpa [Value.cells, c9] using hx 0 _ rfl
  have g1 : DataW.trod enc Tryd.prog W base sp held n 9 [k1] = some y1 := by simpa [Value.cells, c9] using hx 1 _ rfl
  have g2 : DataW.trod enc Tryd.prog W base sp held n 9 [k2] = some y2 := by simpa [Value.cells, c9] using hx 2 _ rfl
  have g3 : DataW.trod enc Tryd.prog W base sp held n 3 [k3] = some y3 := by simpa [Value.cells, c3] using hx 3 _ rfl
  have g4 : DataW.trod enc Tryd.prog W base sp held n 23 [k4, k5, k6] = some y4 := by simpa [Value.cells, c23] using hx 4 _ rfl
  obtain ⟨z0, z1, z2, m, _, _, j0, j1, j2⟩ := trod_struct3 Tryd.underlying23 g4
  have i0 : DataW.trod enc Tryd.prog W base sp held m 3 [k4] = some z0 := by simpa [c3] using j0
  have i1 : DataW.trod enc Tryd.prog W base sp held m 3 [k5] = some z1 := by simpa [c3] using j1
  have i2 : DataW.trod enc Tryd.prog W base sp held m 9 [k6] = some z2 := by simpa [c9] using j2
  obtain ⟨s0, e0, _, _⟩ := DataW.trod_string Tryd.underlying9 g0
  obtain ⟨s1, e1, _, _⟩ := DataW.trod_string Tryd.underlying9 g1
  obtain ⟨s2, e2, _, _⟩ := DataW.trod_string Tryd.underlying9 g2
  obtain ⟨x3, e3, _, w3⟩ := DataW.trod_int Tryd.underlying3 g3
  obtain ⟨x4, e4, _, w4⟩ := DataW.trod_int Tryd.underlying3 i0
  obtain ⟨x5, e5, _, w5⟩ := DataW.trod_int Tryd.underlying3 i1
  obtain ⟨s6, e6, _, _⟩ := DataW.trod_string Tryd.underlying9 i2
  obtain rfl := (List.cons.inj e0).1
  obtain rfl := (List.cons.inj e1).1
  obtain rfl := (List.cons.inj e2).1
  obtain rfl := (List.cons.inj e3).1
  obtain rfl := (List.cons.inj e4).1
  obtain rfl := (List.cons.inj e5).1
  obtain rfl := (List.cons.inj e6).1
  have b3 := bounds_i64 w3
  have b5 := bounds_i64 w5
  exact ⟨⟨s0.data.toList, s1.data.toList, s2.data.toList, x3, ⟨x4, x5, s6.data.toList⟩⟩, by simp [cmdV, ofL_self], ⟨by show _ ≤ x3; omega, by show x3 ≤ _; omega⟩, ⟨by show _ ≤ x5; omega, by show x5 ≤ _; omega⟩⟩
end Go.Proofs.YtoombjbpblighabDoor
