/-
  Layer 14: a list of things to do that comes in. Written by an AI agent.
-/
import Derived.Test.YtpighdioomjnmabKpR
import Derived.ProofKit
import Derived.OpenShut
import Derived.Deep.Matrix
import Derived.Deep.Strs
import Derived.WideShapes
import Derived.ChangeSlices
import Derived.Lib.SmallJoins
namespace Go.Proofs.Ytpighdioomjnmab
open Go Go.ChangeShapes Go.WideShapes Go.ChangeAt Go.RowKit Go.Joins Go.Deep
set_option linter.unusedVariables false

theorem cells5 : Try.prog.cellsOf 5 = 1 := by kernel_rfl
theorem cells3 : Try.prog.cellsOf 3 = 1 := by kernel_rfl
theorem cells29 : Try.prog.cellsOf 29 = 3 := by kernel_rfl
theorem addr_addk (b off i : Nat) : (⟨b, off, none⟩ : Addr).add i = ⟨b, off + i, none⟩ := by unfold Addr.add; split <;> simp_all

/-- Three cells that read as something to do. -/
theorem open_op {H : Type} {enc : TypeId × Value → H} {W : World} {base : Nat} {sp : Nat → Bool} {held : Bool} {n : Nat} {a : Addr} {cs : List Value} {x : DataW H × List MemPlace} (hc : W.cells? base a 3 = some cs) (h : DataW.trod enc Try.prog W base sp held n 29 cs = some x) :
    ∃ (k : Nat) (u v : Int), k < 256 ∧ W.cell? (a.add 0) = some (.int .u8 (k : Int)) ∧ W.cell? (a.add 1) = some (.int .i64 u) ∧ W.cell? (a.add 2) = some (.int .i64 v) := by
  obtain ⟨_, hlen, hcell⟩ := World.cells?_some hc
  obtain ⟨y0, y1, y2, m, _, _, h0, h1, h2⟩ := trod_struct3 Try.underlying29 h
  match cs, hlen with
  | [c0, c1, c2], _ =>
    have g0 : DataW.trod enc Try.prog W base sp held m 5 [c0] = some y0 := by simpa [cells5] using h0
    have g1 : DataW.trod enc Try.prog W base sp held m 3 [c1] = some y1 := by simpa [cells3] using h1
    have g2 : DataW.trod enc Try.prog W base sp held m 3 [c2] = some y2 := by simpa [cells3] using h2
    obtain ⟨x0, e0, _, w0⟩ := DataW.trod_int Try.underlying5 g0
    obtain ⟨x1, e1, _, w1⟩ := DataW.trod_int Try.underlying3 g1
    obtain ⟨x2, e2, _, w2⟩ := DataW.trod_int Try.underlying3 g2
    obtain rfl := (List.cons.inj e0).1
    obtain rfl := (List.cons.inj e1).1
    obtain rfl := (List.cons.inj e2).1
    have hb := bounds_u8 w0
    exact ⟨x0.toNat, x1, x2, by omega, by rw [show ((x0.toNat : Nat) : Int) = x0 by omega]; exact hcell 0 (by omega), hcell 1 (by omega), hcell 2 (by omega)⟩

theorem open_ops {H : Type} {enc : TypeId × Value → H} {W : World} {r : Reach} {b0 : Nat} {v : Value} {d : DataW H} {p : List MemPlace} (hv : Value.okWide Try.prog W r b0 22 v) (h : DataW.Trod enc Try.prog W 0 (fun _ => true) true 22 v d p) :
    ∃ (A : Option Addr) (len cap : Nat) (qs : Nat → Nat) (at' xs : Nat → Int), v = .slice A len cap ∧ len ≤ 9223372036854775807 ∧ OpsAt W A len qs at' xs := by
  obtain ⟨A, len, cap, rfl⟩ := okWide_slice Try.underlying22 hv
  obtain ⟨fuel, hf⟩ := h
  rcases open_slice Try.underlying22 hf with ⟨hcs, _⟩ | ⟨a, l, c, m, n, D, Pl, hcs, _, hl, hm, hmm, _, hx⟩
  · simp [Value.cells] at hcs
    obtain ⟨rfl, rfl, rfl⟩ := hcs
    exact ⟨none, 0, 0, fun _ => 0, fun _ => 0, fun _ => 0, rfl, by omega, fun h => absurd h (Nat.lt_irrefl _)⟩
  · simp [Value.cells] at hcs
    obtain ⟨rfl, rfl, rfl⟩ := hcs
    have hlm : len ≤ 9223372036854775807 := by unfold maxLen at hm; omega
    rw [if_pos rfl] at hmm
    rw [cells29] at hx
    rcases Nat.eq_zero_or_pos len with h0 | h0
    · exact ⟨_, _, _, fun _ => 0, fun _ => 0, fun _ => 0, rfl, hlm, fun h => by omega⟩
    obtain ⟨b, off, spot⟩ := a
    obtain ⟨cs0, hc0, ht0⟩ := hx 0 (by omega)
    obtain ⟨_, _, _, _, q0, _⟩ := open_op hc0 ht0
    have hspot : spot = none := by simpa [Addr.add] using World.cell?_spot q0
    subst hspot
    have key : ∀ k, ∃ t : Nat × Int × Int, k < len → (t.1 < 256 ∧ W.cell? ⟨b, off + k * 3, none⟩ = some (.int .u8 ((t.1 : Nat) : Int))) ∧ W.cell? ⟨b, off + k * 3 + 1, none⟩ = some (.int .i64 t.2.1) ∧ W.cell? ⟨b, off + k * 3 + 2, none⟩ = some (.int .i64 t.2.2) := fun k => by
      rcases Nat.lt_or_ge k len with hk | hk
      · obtain ⟨cs1, hc1, ht1⟩ := hx k (by omega)
        obtain ⟨k0, u, z, q, r0, r1, r2⟩ := open_op hc1 ht1
        simp only [addr_addk, Nat.add_zero] at r0 r1 r2
        exact ⟨(k0, u, z), fun _ => ⟨⟨q, r0⟩, r1, r2⟩⟩
      · exact ⟨(0, 0, 0), fun h => by omega⟩
    refine ⟨_, _, _, fun k => (Classical.choose (key k)).1, fun k => (Classical.choose (key k)).2.1, fun k => (Classical.choose (key k)).2.2, rfl, hlm, fun _ => ⟨b, off, rfl, fun k hk => Classical.choose_spec (key k) hk⟩⟩

end Go.Proofs.Ytpighdioomjnmab
