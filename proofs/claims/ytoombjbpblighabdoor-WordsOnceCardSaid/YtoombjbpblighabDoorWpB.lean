/-
  Layer 22: the contract of short. Written by an AI agent (wpb.py).
-/
import Derived.Test.YtoombjbpblighabDoorWoX
namespace Go.Proofs.YtoombjbpblighabDoor
open Go Go.RowKit Go.Shelf
set_option linter.unusedVariables false
set_option linter.unusedSimpArgs false
set_option maxRecDepth 100000

def cutB (n : Nat) (s : ByteArray) : ByteArray := if n < s.size then s.extract 0 n else s
theorem cutB_size (n : Nat) (s : ByteArray) : (cutB n s).size ≤ n := by
  unfold cutB
  split
  · rw [ByteArray.size_extract]; omega
  · omega
theorem set7 {w : World} {p : Nat} {m : Cm} (h : CmdAt w p m) (m' : Cm) : CmdAt (((((((w.setCell ⟨p, 0, none⟩ (.string (ofL m'.verb))).setCell ⟨p, 1, none⟩ (.string (ofL m'.a))).setCell ⟨p, 2, none⟩ (.string (ofL m'.b))).setCell ⟨p, 3, none⟩ (.int .i64 m'.n)).setCell ⟨p, 4, none⟩ (.int .i64 m'.v.ty)).setCell ⟨p, 5, none⟩ (.int .i64 m'.v.n)).setCell ⟨p, 6, none⟩ (.string (ofL m'.v.s))) p m' := by
  have c0 := h.c0
  have c1 := h.c1
  have c2 := h.c2
  have c3 := h.c3
  have c4 := h.c4
  have c5 := h.c5
  have c6 := h.c6
  have o : ∀ (w : World) i j v, i ≠ j → (w.setCell ⟨p, i, none⟩ v).cell? ⟨p, j, none⟩ = w.cell? ⟨p, j, none⟩ := fun w i j v h => cell_other w i j v (Or.inl h)
  have y : ∀ (w : World) i v x, w.cell? ⟨p, i, none⟩ = some x → (w.setCell ⟨p, i, none⟩ v).cell? ⟨p, i, none⟩ = some v := fun w i v x h => World.cell?_setCell_same' w _ _ (by rw [h]; rfl)
  refine ⟨?_, ?_, ?_, ?_, ?_, ?_, ?_, fun i hi => ?_⟩
  · rw [o _ 6 0 _ (by decide), o _ 5 0 _ (by decide), o _ 4 0 _ (by decide), o _ 3 0 _ (by decide), o _ 2 0 _ (by decide), o _ 1 0 _ (by decide)]
    exact y _ 0 _ _ c0
  · rw [o _ 6 1 _ (by decide), o _ 5 1 _ (by decide), o _ 4 1 _ (by decide), o _ 3 1 _ (by decide), o _ 2 1 _ (by decide)]
    exact y _ 1 _ _ ((o _ 0 1 _ (by decide)).trans c1)
  · rw [o _ 6 2 _ (by decide), o _ 5 2 _ (by decide), o _ 4 2 _ (by decide), o _ 3 2 _ (by decide)]
    exact y _ 2 _ _ ((o _ 1 2 _ (by decide)).trans ((o _ 0 2 _ (by decide)).trans c2))
  · rw [o _ 6 3 _ (by decide), o _ 5 3 _ (by decide), o _ 4 3 _ (by decide)]
    exact y _ 3 _ _ ((o _ 2 3 _ (by decide)).trans ((o _ 1 3 _ (by decide)).trans ((o _ 0 3 _ (by decide)).trans c3)))
  · rw [o _ 6 4 _ (by decide), o _ 5 4 _ (by decide)]
    exact y _ 4 _ _ ((o _ 3 4 _ (by decide)).trans ((o _ 2 4 _ (by decide)).trans ((o _ 1 4 _ (by decide)).trans ((o _ 0 4 _ (by decide)).trans c4))))
  · rw [o _ 6 5 _ (by decide)]
    exact y _ 5 _ _ ((o _ 4 5 _ (by decide)).trans ((o _ 3 5 _ (by decide)).trans ((o _ 2 5 _ (by decide)).trans ((o _ 1 5 _ (by decide)).trans ((o _ 0 5 _ (by decide)).trans c5)))))
  · exact y _ 6 _ _ ((o _ 5 6 _ (by decide)).trans ((o _ 4 6 _ (by decide)).trans ((o _ 3 6 _ (by decide)).trans ((o _ 2 6 _ (by decide)).trans ((o _ 1 6 _ (by decide)).trans ((o _ 0 6 _ (by decide)).trans c6))))))
  · simp only [set_frozen]
    exact h.f i hi
set_option maxHeartbeats 16000000 in
theorem short22_any (v a b s : ByteArray) (n ty vn : Int) (w : World) : Calls Tryd.prog 8 #[.agg #[.string v, .string a, .string b, .int .i64 n, .int .i64 ty, .int .i64 vn, .string s]] w fun e w' => e = .returned (.agg #[.string (cutB 30 v), .string (cutB 30 a), .string (cutB 30 b), .int .i64 n, .int .i64 ty, .int .i64 vn, .string (cutB 60 s)]) ∧ Keeps (fun _ => False) w w' := by
  by_cases h0 : 30 < v.size
  · have e0 : cutB 30 v = v.extract 0 30 := if_pos h0
    have i0 : (30 : Int) < (v.size : Int) := by omega
    have d0 : decide ((30 : Int) < (v.size : Int)) = true := decide_eq_true i0
    have j0 : (30 : Int) ≤ (v.size : Int) := by omega
    rw [e0]
    clear e0 h0
    by_cases h1 : 30 < a.size
    · have e1 : cutB 30 a = a.extract 0 30 := if_pos h1
      have i1 : (30 : Int) < (a.size : Int) := by omega
      have d1 : decide ((30 : Int) < (a.size : Int)) = true := decide_eq_true i1
      have j1 : (30 : Int) ≤ (a.size : Int) := by omega
      rw [e1]
      clear e1 h1
      by_cases h2 : 30 < b.size
      · have e2 : cutB 30 b = b.extract 0 30 := if_pos h2
        have i2 : (30 : Int) < (b.size : Int) := by omega
        have d2 : decide ((30 : Int) < (b.size : Int)) = true := decide_eq_true i2
        have j2 : (30 : Int) ≤ (b.size : Int) := by omega
        rw [e2]
        clear e2 h2
        by_cases h3 : 60 < s.size
        · have e3 : cutB 60 s = s.extract 0 60 := if_pos h3
          have i3 : (60 : Int) < (s.size : Int) := by omega
          have d3 : decide ((60 : Int) < (s.size : Int)) = true := decide_eq_true i3
          have j3 : (60 : Int) ≤ (s.size : Int) := by omega
          rw [e3]
          clear e3 h3
          go_enter Tryd.func8, Tryd.ntmps8
          go_wp2
          refine bodyPost_ret (v := .agg #[.string (v.extract 0 30), .string (a.extract 0 30), .string (b.extract 0 30), .int .i64 n, .int .i64 ty, .int .i64 vn, .string (s.extract 0 60)]) ?_ rfl ?_
          · rw [results_cell1 rfl]
            go_simp
          · refine ⟨rfl, ?_⟩
            repeat' (first | exact Keeps.refl _ _ | refine Keeps.alloc ?_ _ | refine Keeps.setCell ?_ (fun h => by dsimp only at h; omega) _)
        · have e3 : cutB 60 s = s := if_neg h3
          have i3 : ¬ (60 : Int) < (s.size : Int) := by omega
          have d3 : decide ((60 : Int) < (s.size : Int)) = false := decide_eq_false i3
          rw [e3]
          clear e3 h3
          go_enter Tryd.func8, Tryd.ntmps8
          go_wp2
          refine bodyPost_ret (v := .agg #[.string (v.extract 0 30), .string (a.extract 0 30), .string (b.extract 0 30), .int .i64 n, .int .i64 ty, .int .i64 vn, .string s]) ?_ rfl ?_
          · rw [results_cell1 rfl]
            go_simp
          · refine ⟨rfl, ?_⟩
            repeat' (first | exact Keeps.refl _ _ | refine Keeps.alloc ?_ _ | refine Keeps.setCell ?_ (fun h => by dsimp only at h; omega) _)
      · have e2 : cutB 30 b = b := if_neg h2
        have i2 : ¬ (30 : Int) < (b.size : Int) := by omega
        have d2 : decide ((30 : Int) < (b.size : Int)) = false := decide_eq_false i2
        rw [e2]
        clear e2 h2
        by_cases h3 : 60 < s.size
        · have e3 : cutB 60 s = s.extract 0 60 := if_pos h3
          have i3 : (60 : Int) < (s.size : Int) := by omega
          have d3 : decide ((60 : Int) < (s.size : Int)) = true := decide_eq_true i3
          have j3 : (60 : Int) ≤ (s.size : Int) := by omega
          rw [e3]
          clear e3 h3
          go_enter Tryd.func8, Tryd.ntmps8
          go_wp2
          refine bodyPost_ret (v := .agg #[.string (v.extract 0 30), .string (a.extract 0 30), .string b, .int .i64 n, .int .i64 ty, .int .i64 vn, .string (s.extract 0 60)]) ?_ rfl ?_
          · rw [results_cell1 rfl]
            go_simp
          · refine ⟨rfl, ?_⟩
            repeat' (first | exact Keeps.refl _ _ | refine Keeps.alloc ?_ _ | refine Keeps.setCell ?_ (fun h => by dsimp only at h; omega) _)
        · have e3 : cutB 60 s = s := if_neg h3
          have i3 : ¬ (60 : Int) < (s.size : Int) := by omega
          have d3 : decide ((60 : Int) < (s.size : Int)) = false := decide_eq_false i3
          rw [e3]
          clear e3 h3
          go_enter Tryd.func8, Tryd.ntmps8
          go_wp2
          refine bodyPost_ret (v := .agg #[.string (v.extract 0 30), .string (a.extract 0 30), .string b, .int .i64 n, .int .i64 ty, .int .i64 vn, .string s]) ?_ rfl ?_
          · rw [results_cell1 rfl]
            go_simp
          · refine ⟨rfl, ?_⟩
            repeat' (first | exact Keeps.refl _ _ | refine Keeps.alloc ?_ _ | refine Keeps.setCell ?_ (fun h => by dsimp only at h; omega) _)
    · have e1 : cutB 30 a = a := if_neg h1
      have i1 : ¬ (30 : Int) < (a.size : Int) := by omega
      have d1 : decide ((30 : Int) < (a.size : Int)) = false := decide_eq_false i1
      rw [e1]
      clear e1 h1
      by_cases h2 : 30 < b.size
      · have e2 : cutB 30 b = b.extract 0 30 := if_pos h2
        have i2 : (30 : Int) < (b.size : Int) := by omega
        have d2 : decide ((30 : Int) < (b.size : Int)) = true := decide_eq_true i2
        have j2 : (30 : Int) ≤ (b.size : Int) := by omega
        rw [e2]
        clear e2 h2
        by_cases h3 : 60 < s.size
        · have e3 : cutB 60 s = s.extract 0 60 := if_pos h3
          have i3 : (60 : Int) < (s.size : Int) := by omega
          have d3 : decide ((60 : Int) < (s.size : Int)) = true := decide_eq_true i3
          have j3 : (60 : Int) ≤ (s.size : Int) := by omega
          rw [e3]
          clear e3 h3
          go_enter Tryd.func8, Tryd.ntmps8
          go_wp2
          refine bodyPost_ret (v := .agg #[.string (v.extract 0 30), .string a, .string (b.extract 0 30), .int .i64 n, .int .i64 ty, .int .i64 vn, .string (s.extract 0 60)]) ?_ rfl ?_
          · rw [results_cell1 rfl]
            go_simp
          · refine ⟨rfl, ?_⟩
            repeat' (first | exact Keeps.refl _ _ | refine Keeps.alloc ?_ _ | refine Keeps.setCell ?_ (fun h => by dsimp only at h; omega) _)
        · have e3 : cutB 60 s = s := if_neg h3
          have i3 : ¬ (60 : Int) < (s.size : Int) := by omega
          have d3 : decide ((60 : Int) < (s.size : Int)) = false := decide_eq_false i3
          rw [e3]
          clear e3 h3
          go_enter Tryd.func8, Tryd.ntmps8
          go_wp2
          refine bodyPost_ret (v := .agg #[.string (v.extract 0 30), .string a, .string (b.extract 0 30), .int .i64 n, .int .i64 ty, .int .i64 vn, .string s]) ?_ rfl ?_
          · rw [results_cell1 rfl]
            go_simp
          · refine ⟨rfl, ?_⟩
            repeat' (first | exact Keeps.refl _ _ | refine Keeps.alloc ?_ _ | refine Keeps.setCell ?_ (fun h => by dsimp only at h; omega) _)
      · have e2 : cutB 30 b = b := if_neg h2
        have i2 : ¬ (30 : Int) < (b.size : Int) := by omega
        have d2 : decide ((30 : Int) < (b.size : Int)) = false := decide_eq_false i2
        rw [e2]
        clear e2 h2
        by_cases h3 : 60 < s.size
        · have e3 : cutB 60 s = s.extract 0 60 := if_pos h3
          have i3 : (60 : Int) < (s.size : Int) := by omega
          have d3 : decide ((60 : Int) < (s.size : Int)) = true := decide_eq_true i3
          have j3 : (60 : Int) ≤ (s.size : Int) := by omega
          rw [e3]
          clear e3 h3
          go_enter Tryd.func8, Tryd.ntmps8
          go_wp2
          refine bodyPost_ret (v := .agg #[.string (v.extract 0 30), .string a, .string b, .int .i64 n, .int .i64 ty, .int .i64 vn, .string (s.extract 0 60)]) ?_ rfl ?_
          · rw [results_cell1 rfl]
            go_simp
          · refine ⟨rfl, ?_⟩
            repeat' (first | exact Keeps.refl _ _ | refine Keeps.alloc ?_ _ | refine Keeps.setCell ?_ (fun h => by dsimp only at h; omega) _)
        · have e3 : cutB 60 s = s := if_neg h3
          have i3 : ¬ (60 : Int) < (s.size : Int) := by omega
          have d3 : decide ((60 : Int) < (s.size : Int)) = false := decide_eq_false i3
          rw [e3]
          clear e3 h3
          go_enter Tryd.func8, Tryd.ntmps8
          go_wp2
          refine bodyPost_ret (v := .agg #[.string (v.extract 0 30), .string a, .string b, .int .i64 n, .int .i64 ty, .int .i64 vn, .string s]) ?_ rfl ?_
          · rw [results_cell1 rfl]
            go_simp
          · refine ⟨rfl, ?_⟩
            repeat' (first | exact Keeps.refl _ _ | refine Keeps.alloc ?_ _ | refine Keeps.setCell ?_ (fun h => by dsimp only at h; omega) _)
  · have e0 : cutB 30 v = v := if_neg h0
    have i0 : ¬ (30 : Int) < (v.size : Int) := by omega
    have d0 : decide ((30 : Int) < (v.size : Int)) = false := decide_eq_false i0
    rw [e0]
    clear e0 h0
    by_cases h1 : 30 < a.size
    · have e1 : cutB 30 a = a.extract 0 30 := if_pos h1
      have i1 : (30 : Int) < (a.size : Int) := by omega
      have d1 : decide ((30 : Int) < (a.size : Int)) = true := decide_eq_true i1
      have j1 : (30 : Int) ≤ (a.size : Int) := by omega
      rw [e1]
      clear e1 h1
      by_cases h2 : 30 < b.size
      · have e2 : cutB 30 b = b.extract 0 30 := if_pos h2
        have i2 : (30 : Int) < (b.size : Int) := by omega
        have d2 : decide ((30 : Int) < (b.size : Int)) = true := decide_eq_true i2
        have j2 : (30 : Int) ≤ (b.size : Int) := by omega
        rw [e2]
        clear e2 h2
        by_cases h3 : 60 < s.size
        · have e3 : cutB 60 s = s.extract 0 60 := if_pos h3
          have i3 : (60 : Int) < (s.size : Int) := by omega
          have d3 : decide ((60 : Int) < (s.size : Int)) = true := decide_eq_true i3
          have j3 : (60 : Int) ≤ (s.size : Int) := by omega
          rw [e3]
          clear e3 h3
          go_enter Tryd.func8, Tryd.ntmps8
          go_wp2
          refine bodyPost_ret (v := .agg #[.string v, .string (a.extract 0 30), .string (b.extract 0 30), .int .i64 n, .int .i64 ty, .int .i64 vn, .string (s.extract 0 60)]) ?_ rfl ?_
          · rw [results_cell1 rfl]
            go_simp
          · refine ⟨rfl, ?_⟩
            repeat' (first | exact Keeps.refl _ _ | refine Keeps.alloc ?_ _ | refine Keeps.setCell ?_ (fun h => by dsimp only at h; omega) _)
        · have e3 : cutB 60 s = s := if_neg h3
          have i3 : ¬ (60 : Int) < (s.size : Int) := by omega
          have d3 : decide ((60 : Int) < (s.size : Int)) = false := decide_eq_false i3
          rw [e3]
          clear e3 h3
          go_enter Tryd.func8, Tryd.ntmps8
          go_wp2
          refine bodyPost_ret (v := .agg #[.string v, .string (a.extract 0 30), .string (b.extract 0 30), .int .i64 n, .int .i64 ty, .int .i64 vn, .string s]) ?_ rfl ?_
          · rw [results_cell1 rfl]
            go_simp
          · refine ⟨rfl, ?_⟩
            repeat' (first | exact Keeps.refl _ _ | refine Keeps.alloc ?_ _ | refine Keeps.setCell ?_ (fun h => by dsimp only at h; omega) _)
      · have e2 : cutB 30 b = b := if_neg h2
        have i2 : ¬ (30 : Int) < (b.size : Int) := by omega
        have d2 : decide ((30 : Int) < (b.size : Int)) = false := decide_eq_false i2
        rw [e2]
        clear e2 h2
        by_cases h3 : 60 < s.size
        · have e3 : cutB 60 s = s.extract 0 60 := if_pos h3
          have i3 : (60 : Int) < (s.size : Int) := by omega
          have d3 : decide ((60 : Int) < (s.size : Int)) = true := decide_eq_true i3
          have j3 : (60 : Int) ≤ (s.size : Int) := by omega
          rw [e3]
          clear e3 h3
          go_enter Tryd.func8, Tryd.ntmps8
          go_wp2
          refine bodyPost_ret (v := .agg #[.string v, .string (a.extract 0 30), .string b, .int .i64 n, .int .i64 ty, .int .i64 vn, .string (s.extract 0 60)]) ?_ rfl ?_
          · rw [results_cell1 rfl]
            go_simp
          · refine ⟨rfl, ?_⟩
            repeat' (first | exact Keeps.refl _ _ | refine Keeps.alloc ?_ _ | refine Keeps.setCell ?_ (fun h => by dsimp only at h; omega) _)
        · have e3 : cutB 60 s = s := if_neg h3
          have i3 : ¬ (60 : Int) < (s.size : Int) := by omega
          have d3 : decide ((60 : Int) < (s.size : Int)) = false := decide_eq_false i3
          rw [e3]
          clear e3 h3
          go_enter Tryd.func8, Tryd.ntmps8
          go_wp2
          refine bodyPost_ret (v := .agg #[.string v, .string (a.extract 0 30), .string b, .int .i64 n, .int .i64 ty, .int .i64 vn, .string s]) ?_ rfl ?_
          · rw [results_cell1 rfl]
            go_simp
          · refine ⟨rfl, ?_⟩
            repeat' (first | exact Keeps.refl _ _ | refine Keeps.alloc ?_ _ | refine Keeps.setCell ?_ (fun h => by dsimp only at h; omega) _)
    · have e1 : cutB 30 a = a := if_neg h1
      have i1 : ¬ (30 : Int) < (a.size : Int) := by omega
      have d1 : decide ((30 : Int) < (a.size : Int)) = false := decide_eq_false i1
      rw [e1]
      clear e1 h1
      by_cases h2 : 30 < b.size
      · have e2 : cutB 30 b = b.extract 0 30 := if_pos h2
        have i2 : (30 : Int) < (b.size : Int) := by omega
        have d2 : decide ((30 : Int) < (b.size : Int)) = true := decide_eq_true i2
        have j2 : (30 : Int) ≤ (b.size : Int) := by omega
        rw [e2]
        clear e2 h2
        by_cases h3 : 60 < s.size
        · have e3 : cutB 60 s = s.extract 0 60 := if_pos h3
          have i3 : (60 : Int) < (s.size : Int) := by omega
          have d3 : decide ((60 : Int) < (s.size : Int)) = true := decide_eq_true i3
          have j3 : (60 : Int) ≤ (s.size : Int) := by omega
          rw [e3]
          clear e3 h3
          go_enter Tryd.func8, Tryd.ntmps8
          go_wp2
          refine bodyPost_ret (v := .agg #[.string v, .string a, .string (b.extract 0 30), .int .i64 n, .int .i64 ty, .int .i64 vn, .string (s.extract 0 60)]) ?_ rfl ?_
          · rw [results_cell1 rfl]
            go_simp
          · refine ⟨rfl, ?_⟩
            repeat' (first | exact Keeps.refl _ _ | refine Keeps.alloc ?_ _ | refine Keeps.setCell ?_ (fun h => by dsimp only at h; omega) _)
        · have e3 : cutB 60 s = s := if_neg h3
          have i3 : ¬ (60 : Int) < (s.size : Int) := by omega
          have d3 : decide ((60 : Int) < (s.size : Int)) = false := decide_eq_false i3
          rw [e3]
          clear e3 h3
          go_enter Tryd.func8, Tryd.ntmps8
          go_wp2
          refine bodyPost_ret (v := .agg #[.string v, .string a, .string (b.extract 0 30), .int .i64 n, .int .i64 ty, .int .i64 vn, .string s]) ?_ rfl ?_
          · rw [results_cell1 rfl]
            go_simp
          · refine ⟨rfl, ?_⟩
            repeat' (first | exact Keeps.refl _ _ | refine Keeps.alloc ?_ _ | refine Keeps.setCell ?_ (fun h => by dsimp only at h; omega) _)
      · have e2 : cutB 30 b = b := if_neg h2
        have i2 : ¬ (30 : Int) < (b.size : Int) := by omega
        have d2 : decide ((30 : Int) < (b.size : Int)) = false := decide_eq_false i2
        rw [e2]
        clear e2 h2
        by_cases h3 : 60 < s.size
        · have e3 : cutB 60 s = s.extract 0 60 := if_pos h3
          have i3 : (60 : Int) < (s.size : Int) := by omega
          have d3 : decide ((60 : Int) < (s.size : Int)) = true := decide_eq_true i3
          have j3 : (60 : Int) ≤ (s.size : Int) := by omega
          rw [e3]
          clear e3 h3
          go_enter Tryd.func8, Tryd.ntmps8
          go_wp2
          refine bodyPost_ret (v := .agg #[.string v, .string a, .string b, .int .i64 n, .int .i64 ty, .int .i64 vn, .string (s.extract 0 60)]) ?_ rfl ?_
          · rw [results_cell1 rfl]
            go_simp
          · refine ⟨rfl, ?_⟩
            repeat' (first | exact Keeps.refl _ _ | refine Keeps.alloc ?_ _ | refine Keeps.setCell ?_ (fun h => by dsimp only at h; omega) _)
        · have e3 : cutB 60 s = s := if_neg h3
          have i3 : ¬ (60 : Int) < (s.size : Int) := by omega
          have d3 : decide ((60 : Int) < (s.size : Int)) = false := decide_eq_false i3
          rw [e3]
          clear e3 h3
          go_enter Tryd.func8, Tryd.ntmps8
          go_wp2
          refine bodyPost_ret (v := .agg #[.string v, .string a, .string b, .int .i64 n, .int .i64 ty, .int .i64 vn, .string s]) ?_ rfl ?_
          · rw [results_cell1 rfl]
            go_simp
          · refine ⟨rfl, ?_⟩
            repeat' (first | exact Keeps.refl _ _ | refine Keeps.alloc ?_ _ | refine Keeps.setCell ?_ (fun h => by dsimp only at h; omega) _)
end Go.Proofs.YtoombjbpblighabDoor
