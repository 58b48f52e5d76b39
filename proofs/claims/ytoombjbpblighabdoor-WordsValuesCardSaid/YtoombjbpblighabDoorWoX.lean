/-
  Layer 22: what is read, as data. Written by an AI agent.
-/
import Derived.Test.YtoombjbpblighabDoorWoV
namespace Go.Proofs.YtoombjbpblighabDoor
open Go Go.RowKit Go.Shelf
set_option linter.unusedVariables false
set_option linter.unusedSimpArgs false
set_option maxRecDepth 100000

theorem split_small (l : List UInt8) : (∀ x ∈ splitSp l, x.length ≤ l.length) ∧ (splitSp l).length ≤ l.length + 1 := by
  induction l with
  | nil => simp [splitSp]
  | cons c r ih =>
    obtain ⟨h1, h2⟩ := ih
    unfold splitSp
    split
    · refine ⟨fun x hx => ?_, by simp; omega⟩
      rcases List.mem_cons.1 hx with rfl | hx
      · simp
      · have := h1 x hx
        simp
        omega
    · cases h : splitSp r with
      | nil => exact absurd h (splitSp_ne r)
      | cons w ws =>
        rw [h] at h1 h2
        refine ⟨fun x hx => ?_, by simp at h2 ⊢; omega⟩
        rcases List.mem_cons.1 hx with rfl | hx
        · have := h1 w (by simp)
          simp
          omega
        · have := h1 x (by simp [hx])
          simp
          omega
theorem split_pos (l : List UInt8) : 0 < (splitSp l).length := List.length_pos_iff.2 (splitSp_ne l)
theorem read_cases (l : List UInt8) : readN l = match kindsN ((splitSp l).getD 0 []) with
    | none => none
    | some ks => if (splitSp l).length = 1 + ks.length then (if lineN (hearAll ks (splitSp l).tail (zeroC ((splitSp l).getD 0 []))) = some l then some (hearAll ks (splitSp l).tail (zeroC ((splitSp l).getD 0 []))) else none) else none := by
  unfold readN
  cases h : splitSp l with
  | nil => exact absurd h (splitSp_ne l)
  | cons v ws =>
    have e : ((v :: ws).getD 0 []) = v := rfl
    simp only [e, List.tail_cons, List.length_cons]
    cases kindsN v with
    | none => rfl
    | some ks =>
      simp only
      by_cases g : ws.length = ks.length
      · have g2 : ws.length + 1 = 1 + ks.length := by omega
        rw [if_pos g, if_pos g2]
      · have g2 : ¬ ws.length + 1 = 1 + ks.length := by omega
        rw [if_neg g, if_neg g2]
  
theorem hear_drop (ks : List Nat) (ws : List (List UInt8)) (h : ws.length = ks.length) (a : Cm) (i : Nat) (hi : i < ks.length) : hearAll (ks.drop i) (ws.drop i) a = hearAll (ks.drop (i + 1)) (ws.drop (i + 1)) (hearN (ks.getD i 0) (ws.getD i []) a) := by
  have hi2 : i < ws.length := by omega
  rw [List.drop_eq_getElem_cons hi, List.drop_eq_getElem_cons hi2]
  rw [show ks.getD i 0 = ks[i] by simp [List.getD, hi], show ws.getD i [] = ws[i] by simp [List.getD, hi2]]
  rfl
theorem tail_getD (L : List (List UInt8)) (i : Nat) : L.tail.getD i [] = L.getD (1 + i) [] := by
  cases L with
  | nil => simp
  | cons x xs =>
    rw [Nat.add_comm]
    rfl
theorem rng0 : Rng 0 := ⟨by decide, by decide⟩
theorem heard_small (s : List UInt8) : (heardN s).s.length ≤ s.length ∧ Rng (heardN s).n := by
  unfold heardN
  split
  · exact ⟨Nat.zero_le _, by decide, by decide⟩
  · split
    · exact ⟨Nat.zero_le _, by decide, by decide⟩
    · split
      · refine ⟨?_, rng0⟩
        show ((s.drop 1).take (s.length - 2)).length ≤ _
        rw [List.length_take, List.length_drop]
        omega
      · exact ⟨Nat.zero_le _, numN_rng _⟩
theorem hear_sz (k : Nat) (s : List UInt8) (hs : s.length ≤ 10000) (m : Cm) (h : SzC m) : SzC (hearN k s m) := by
  match k with
  | 0 => exact ⟨h.verb, hs, h.b, h.s, h.n, h.vn⟩
  | 1 => exact ⟨h.verb, h.a, hs, h.s, h.n, h.vn⟩
  | 2 => exact ⟨h.verb, h.a, h.b, h.s, numN_rng _, h.vn⟩
  | k + 3 => exact ⟨h.verb, h.a, h.b, Nat.le_trans (heard_small s).1 hs, h.n, (heard_small s).2⟩
theorem zero_sz (v : List UInt8) (h : v.length ≤ 10000) : SzC (zeroC v) := ⟨h, Nat.zero_le _, Nat.zero_le _, Nat.zero_le _, rng0, rng0⟩
theorem results_ct {fn : Func} {p u : Tmp} {ty : TypeId} (h : fn.results = #[.cell p ty, .tmp u]) (tmps : Array Value) (P : Program) (w : World) :
    (results fn tmps).run P w = ((asAddr (tmps.getD p undef)).run P w).andThen fun a w₁ => ((loadVar ty a).run P w₁).andThen fun x w₂ => .ok (.tuple #[x, tmps.getD u undef]) w₂ := by
  simp only [results, h]
  simp [Sem.run_bind, Result.andThen]
theorem keep7 {w w1 : World} (k : Keeps (fun _ => False) w w1) (p : Nat) (hp : w.heap.size ≤ p) (a b c d e f g : Value) : Keeps (fun _ => False) w (((((((w1.setCell ⟨p, 0, none⟩ a).setCell ⟨p, 1, none⟩ b).setCell ⟨p, 2, none⟩ c).setCell ⟨p, 3, none⟩ d).setCell ⟨p, 4, none⟩ e).setCell ⟨p, 5, none⟩ f).setCell ⟨p, 6, none⟩ g) :=
  have h : ∀ i, (⟨p, i, none⟩ : Addr).block < w.heap.size → False := fun i h => by simp at h; omega
  ((((((k.setCell (p := ⟨p, 0, none⟩) (h 0) a).setCell (p := ⟨p, 1, none⟩) (h 1) b).setCell (p := ⟨p, 2, none⟩) (h 2) c).setCell (p := ⟨p, 3, none⟩) (h 3) d).setCell (p := ⟨p, 4, none⟩) (h 4) e).setCell (p := ⟨p, 5, none⟩) (h 5) f).setCell (p := ⟨p, 6, none⟩) (h 6) g
def ReadE (l : List UInt8) (w : World) (e : Ending) (w' : World) : Prop := (∃ c x, e = .returned (.tuple #[cmdV c, .int .i64 x]) ∧ match readN l with | some c' => c = c' ∧ x = 0 | none => c = zeroC [] ∧ x = 80) ∧ Keeps (fun _ => False) w w'
end Go.Proofs.YtoombjbpblighabDoor
