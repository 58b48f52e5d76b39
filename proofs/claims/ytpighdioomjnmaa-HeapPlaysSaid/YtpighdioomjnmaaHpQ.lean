/-
  Layer 10: a list of plays that comes in. Written by an AI agent.
-/
import Derived.Test.YtpighdioomjnmaaHpX
import Derived.Test.YtpighdioomjnmaaHpP
namespace Go.Proofs.Ytpighdioomjnmaa
open Go Go.ChangeShapes Go.WideShapes Go.ChangeAt Go.RowKit Go.Joins Go.Deep
set_option linter.unusedVariables false

theorem cells5 : Try.prog.cellsOf 5 = 1 := by kernel_rfl
theorem cells3 : Try.prog.cellsOf 3 = 1 := by kernel_rfl
theorem cells31 : Try.prog.cellsOf 31 = 4 := by kernel_rfl

/-- Four cells that read as a play. -/
theorem open_op {H : Type} {enc : TypeId × Value → H} {W : World} {base : Nat} {sp : Nat → Bool} {held : Bool} {n : Nat} {a : Addr} {cs : List Value} {x : DataW H × List MemPlace} (hc : W.cells? base a 4 = some cs) (h : DataW.trod enc Try.prog W base sp held n 31 cs = some x) :
    ∃ (k : Nat) (u v z : Int), k < 256 ∧ W.cell? (a.add 0) = some (.int .u8 (k : Int)) ∧ W.cell? (a.add 1) = some (.int .i64 u) ∧ W.cell? (a.add 2) = some (.int .i64 v) ∧ W.cell? (a.add 3) = some (.int .i64 z) := by
  obtain ⟨_, hlen, hcell⟩ := World.cells?_some hc
  obtain ⟨y0, y1, y2, y3, m, _, _, h0, h1, h2, h3⟩ := trod_struct4 Try.underlying31 h
  match cs, hlen with
  | [c0, c1, c2, c3], _ =>
    have g0 : DataW.trod enc Try.prog W base sp held m 5 [c0] = some y0 := by simpa [cells5] using h0
    have g1 : DataW.trod enc Try.prog W base sp held m 3 [c1] = some y1 := by simpa [cells3] using h1
    have g2 : DataW.trod enc Try.prog W base sp held m 3 [c2] = some y2 := by simpa [cells3] using h2
    have g3 : DataW.trod enc Try.prog W base sp held m 3 [c3] = some y3 := by simpa [cells3] using h3
    obtain ⟨x0, e0, _, w0⟩ := DataW.trod_int Try.underlying5 g0
    obtain ⟨x1, e1, _, w1⟩ := DataW.trod_int Try.underlying3 g1
    obtain ⟨x2, e2, _, w2⟩ := DataW.trod_int Try.underlying3 g2
    obtain ⟨x3, e3, _, w3⟩ := DataW.trod_int Try.underlying3 g3
    obtain rfl := (List.cons.inj e0).1
    obtain rfl := (List.cons.inj e1).1
    obtain rfl := (List.cons.inj e2).1
    obtain rfl := (List.cons.inj e3).1
    obtain ⟨z0, z1⟩ := u8_nat w0
    exact ⟨x0.toNat, x1, x2, x3, z1, by rw [z0]; exact hcell 0 (by omega), hcell 1 (by omega), hcell 2 (by omega), hcell 3 (by omega)⟩

theorem open_ops {H : Type} {enc : TypeId × Value → H} {W : World} {r : Reach} {b0 : Nat} {v : Value} {d : DataW H} {p : List MemPlace} (hv : Value.okWide Try.prog W r b0 22 v) (h : DataW.Trod enc Try.prog W 0 (fun _ => true) true 22 v d p) :
    ∃ (A : Option Addr) (len cap : Nat), v = .slice A len cap ∧ len ≤ 9223372036854775807 ∧ OpsAt W A len := by
  obtain ⟨A, len, cap, rfl⟩ := okWide_slice Try.underlying22 hv
  obtain ⟨fuel, hf⟩ := h
  rcases open_slice Try.underlying22 hf with ⟨hcs, _⟩ | ⟨a, l, c, m, n, D, Pl, hcs, _, hl, hm, hmm, _, hx⟩
  · simp [Value.cells] at hcs
    obtain ⟨rfl, rfl, rfl⟩ := hcs
    exact ⟨none, 0, 0, rfl, by omega, fun h => absurd h (Nat.lt_irrefl _)⟩
  · simp [Value.cells] at hcs
    obtain ⟨rfl, rfl, rfl⟩ := hcs
    refine ⟨_, _, _, rfl, by unfold maxLen at hm; omega, fun h0 => ?_⟩
    rw [if_pos rfl] at hmm
    rw [cells31] at hx
    obtain ⟨b, off, spot⟩ := a
    obtain ⟨cs0, hc0, ht0⟩ := hx 0 (by omega)
    obtain ⟨_, _, _, _, _, q0, _⟩ := open_op hc0 ht0
    have hspot : spot = none := by simpa [Addr.add] using World.cell?_spot q0
    subst hspot
    refine ⟨b, off, rfl, fun k hk => ?_⟩
    obtain ⟨cs1, hc1, ht1⟩ := hx k (by omega)
    obtain ⟨k0, u, v, z, q, r0, r1, r2, r3⟩ := open_op hc1 ht1
    simp only [addr_add, Nat.add_zero] at r0 r1 r2 r3
    exact ⟨k0, u, v, z, q, r0, r1, r2, r3⟩

end Go.Proofs.Ytpighdioomjnmaa
