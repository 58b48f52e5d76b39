/-
  Layer 5: walks of ValueTexts, that end early. Written by an AI agent.
-/
import Derived.Test.YtpighdioomjnmaaDoorTxtA
import Derived.Test.YtpighdioomjnmaaDoorLogA
import Derived.IntWalk
import Derived.Deep.DeepCutAuto
import Derived.Deep.RegionWith
import Derived.Deep.RegionHeld3
namespace Go.Proofs.YtpighdioomjnmaaDoor.textsof
open Go.RowKit Go.Proofs.YtpighdioomjnmaaDoor.logic
set_option linter.unusedVariables false

set_option maxRecDepth 100000 in
set_option maxHeartbeats 8000000 in
theorem txt_notA_fits (ta na tb nb : Int) (sa sb xa xb : ByteArray) (hla : xa.size ≤ 60) (hlb : xb.size ≤ 60) (hl : xa.size + xb.size ≤ 40)
    (SA : ∀ w, Calls Tryd.prog 11 #[.agg #[.int .i64 ta, .int .i64 na, .string sa]] w fun e w' => e = .returned (.agg #[.int .i64 ta, .int .i64 na, .string xa]) ∧ Below w.heap.size w w')
    (SB : ∀ w, Calls Tryd.prog 11 #[.agg #[.int .i64 tb, .int .i64 nb, .string sb]] w fun e w' => e = .returned (.agg #[.int .i64 tb, .int .i64 nb, .string xb]) ∧ Below w.heap.size w w')
    (MA : ∀ w, Calls Tryd.prog 25 #[.agg #[.int .i64 ta, .int .i64 na, .string xa]] w fun e w' => e = .returned (.bool false) ∧ Below w.heap.size w w')
    (w : World) (hT : TabW w) :
    Calls Tryd.prog 6 #[.agg #[.int .i64 ta, .int .i64 na, .string sa], .agg #[.int .i64 tb, .int .i64 nb, .string sb]] w fun e w' => e = .returned (.bool true) ∧ Below w.heap.size w w' := by
  have SA' := Lib.hid SA
  have SB' := Lib.hid SB
  have MA' := Lib.hid MA
  have HT := Lib.hid hT
  clear hT SA SB MA
  go_enter Tryd.func6, Tryd.ntmps6
  go_wp2_with fail
  refine (shown_any _).mono ?_
  rintro e w1 ⟨rfl, hb1⟩
  have p0 : w1.cell? ⟨w.heap.size, 0, none⟩ = some (.int .i64 ta) := (hb1.cell (p := ⟨w.heap.size, 0, none⟩) (by simp; omega)).trans (by simp)
  have p1 : w1.cell? ⟨w.heap.size, 1, none⟩ = some (.int .i64 na) := (hb1.cell (p := ⟨w.heap.size, 1, none⟩) (by simp; omega)).trans (by simp)
  have p2 : w1.cell? ⟨w.heap.size, 2, none⟩ = some (.string sa) := (hb1.cell (p := ⟨w.heap.size, 2, none⟩) (by simp; omega)).trans (by simp)
  have q0 : w1.cell? ⟨w.heap.size + 1, 0, none⟩ = some (.int .i64 tb) := (hb1.cell (p := ⟨w.heap.size + 1, 0, none⟩) (by simp)).trans (by simp)
  have q1 : w1.cell? ⟨w.heap.size + 1, 1, none⟩ = some (.int .i64 nb) := (hb1.cell (p := ⟨w.heap.size + 1, 1, none⟩) (by simp)).trans (by simp)
  have q2 : w1.cell? ⟨w.heap.size + 1, 2, none⟩ = some (.string sb) := (hb1.cell (p := ⟨w.heap.size + 1, 2, none⟩) (by simp)).trans (by simp)
  have f0 : ∀ k, w1.frozen? ⟨w.heap.size, k, none⟩ = false := fun k => (hb1.frozen (p := ⟨w.heap.size, k, none⟩) (by simp; omega)).trans (by simp)
  have g0 : ∀ k, w1.frozen? ⟨w.heap.size + 1, k, none⟩ = false := fun k => (hb1.frozen (p := ⟨w.heap.size + 1, k, none⟩) (by simp)).trans (by simp)
  have hz : w.heap.size + 1 < w1.heap.size := by have := hb1.size; simp at this; omega
  have B : Below w.heap.size w w1 := (((Below.refl _ _).alloc (Nat.le_refl _) _).alloc (by simp) _).trans (hb1.mono (by simp; omega))
  obtain ⟨P, hP⟩ : ∃ P : Nat, P = w.heap.size := ⟨_, rfl⟩
  obtain ⟨Q, hQ⟩ : ∃ Q : Nat, Q = w.heap.size + 1 := ⟨_, rfl⟩
  clear hb1
  rw [← hQ] at q0 q1 q2 g0 hz
  rw [← hP] at p0 p1 p2 f0
  have hPQ : P < Q := by omega
  have hwP : w.heap.size ≤ P := by omega
  have hwQ : w.heap.size ≤ Q := by omega
  rw [← hQ, ← hP]
  clear hP hQ
  go_wp2_with fail
  refine (SA'.out _).mono ?_
  rintro e w2 ⟨rfl, hb⟩
  replace p0 := keep_cell hb (by omega) p0
  replace p1 := keep_cell hb (by omega) p1
  replace p2 := keep_cell hb (by omega) p2
  replace q0 := keep_cell hb hz q0
  replace q1 := keep_cell hb hz q1
  replace q2 := keep_cell hb hz q2
  replace f0 := fun k => ((bcell hb).2 P k (by omega)).trans (f0 k)
  replace g0 := fun k => ((bcell hb).2 Q k hz).trans (g0 k)
  replace hz := Nat.lt_of_lt_of_le hz hb.size
  replace B := B.trans (hb.mono B.size)
  clear hb
  have hPQ1 : ¬ P = Q := by omega
  have hPQ2 : ¬ Q = P := by omega
  go_wp2_with fail
  have np0 : (((w2.setCell ⟨P, 0, none⟩ (.int .i64 ta)).setCell ⟨P, 1, none⟩ (.int .i64 na)).setCell ⟨P, 2, none⟩ (.string xa)).cell? ⟨P, 0, none⟩ = some (.int .i64 ta) := by (go_simp; done)
  have np1 : (((w2.setCell ⟨P, 0, none⟩ (.int .i64 ta)).setCell ⟨P, 1, none⟩ (.int .i64 na)).setCell ⟨P, 2, none⟩ (.string xa)).cell? ⟨P, 1, none⟩ = some (.int .i64 na) := by (go_simp; done)
  have np2 : (((w2.setCell ⟨P, 0, none⟩ (.int .i64 ta)).setCell ⟨P, 1, none⟩ (.int .i64 na)).setCell ⟨P, 2, none⟩ (.string xa)).cell? ⟨P, 2, none⟩ = some (.string xa) := by (go_simp; done)
  have nq0 : (((w2.setCell ⟨P, 0, none⟩ (.int .i64 ta)).setCell ⟨P, 1, none⟩ (.int .i64 na)).setCell ⟨P, 2, none⟩ (.string xa)).cell? ⟨Q, 0, none⟩ = some (.int .i64 tb) := by (go_simp; done)
  have nq1 : (((w2.setCell ⟨P, 0, none⟩ (.int .i64 ta)).setCell ⟨P, 1, none⟩ (.int .i64 na)).setCell ⟨P, 2, none⟩ (.string xa)).cell? ⟨Q, 1, none⟩ = some (.int .i64 nb) := by (go_simp; done)
  have nq2 : (((w2.setCell ⟨P, 0, none⟩ (.int .i64 ta)).setCell ⟨P, 1, none⟩ (.int .i64 na)).setCell ⟨P, 2, none⟩ (.string xa)).cell? ⟨Q, 2, none⟩ = some (.string sb) := by (go_simp; done)
  have nf0 : ∀ k, (((w2.setCell ⟨P, 0, none⟩ (.int .i64 ta)).setCell ⟨P, 1, none⟩ (.int .i64 na)).setCell ⟨P, 2, none⟩ (.string xa)).frozen? ⟨P, k, none⟩ = false := fun k => by simp [f0]
  have ng0 : ∀ k, (((w2.setCell ⟨P, 0, none⟩ (.int .i64 ta)).setCell ⟨P, 1, none⟩ (.int .i64 na)).setCell ⟨P, 2, none⟩ (.string xa)).frozen? ⟨Q, k, none⟩ = false := fun k => by simp [g0]
  have nhz : Q < (((w2.setCell ⟨P, 0, none⟩ (.int .i64 ta)).setCell ⟨P, 1, none⟩ (.int .i64 na)).setCell ⟨P, 2, none⟩ (.string xa)).heap.size := by simpa using hz
  have nB : Below w.heap.size w (((w2.setCell ⟨P, 0, none⟩ (.int .i64 ta)).setCell ⟨P, 1, none⟩ (.int .i64 na)).setCell ⟨P, 2, none⟩ (.string xa)) := ((B.setCell (p := ⟨P, 0, none⟩) hwP _).setCell (p := ⟨P, 1, none⟩) hwP _).setCell (p := ⟨P, 2, none⟩) hwP _
  refine (SB'.out _).mono ?_
  rintro e w3 ⟨rfl, hb⟩
  replace p0 := keep_cell hb (Nat.lt_trans hPQ nhz) np0
  replace p1 := keep_cell hb (Nat.lt_trans hPQ nhz) np1
  replace p2 := keep_cell hb (Nat.lt_trans hPQ nhz) np2
  replace q0 := keep_cell hb nhz nq0
  replace q1 := keep_cell hb nhz nq1
  replace q2 := keep_cell hb nhz nq2
  replace f0 := fun k => ((bcell hb).2 P k (Nat.lt_trans hPQ nhz)).trans (nf0 k)
  replace g0 := fun k => ((bcell hb).2 Q k nhz).trans (ng0 k)
  replace B := nB.trans (hb.mono nB.size)
  replace hz := Nat.lt_of_lt_of_le nhz hb.size
  clear hb nB nhz nf0 ng0 np0 np1 np2 nq0 nq1 nq2
  go_wp2_with fail
  have np0 : (((w3.setCell ⟨Q, 0, none⟩ (.int .i64 tb)).setCell ⟨Q, 1, none⟩ (.int .i64 nb)).setCell ⟨Q, 2, none⟩ (.string xb)).cell? ⟨P, 0, none⟩ = some (.int .i64 ta) := by (go_simp; done)
  have np1 : (((w3.setCell ⟨Q, 0, none⟩ (.int .i64 tb)).setCell ⟨Q, 1, none⟩ (.int .i64 nb)).setCell ⟨Q, 2, none⟩ (.string xb)).cell? ⟨P, 1, none⟩ = some (.int .i64 na) := by (go_simp; done)
  have np2 : (((w3.setCell ⟨Q, 0, none⟩ (.int .i64 tb)).setCell ⟨Q, 1, none⟩ (.int .i64 nb)).setCell ⟨Q, 2, none⟩ (.string xb)).cell? ⟨P, 2, none⟩ = some (.string xa) := by (go_simp; done)
  have nq0 : (((w3.setCell ⟨Q, 0, none⟩ (.int .i64 tb)).setCell ⟨Q, 1, none⟩ (.int .i64 nb)).setCell ⟨Q, 2, none⟩ (.string xb)).cell? ⟨Q, 0, none⟩ = some (.int .i64 tb) := by (go_simp; done)
  have nq1 : (((w3.setCell ⟨Q, 0, none⟩ (.int .i64 tb)).setCell ⟨Q, 1, none⟩ (.int .i64 nb)).setCell ⟨Q, 2, none⟩ (.string xb)).cell? ⟨Q, 1, none⟩ = some (.int .i64 nb) := by (go_simp; done)
  have nq2 : (((w3.setCell ⟨Q, 0, none⟩ (.int .i64 tb)).setCell ⟨Q, 1, none⟩ (.int .i64 nb)).setCell ⟨Q, 2, none⟩ (.string xb)).cell? ⟨Q, 2, none⟩ = some (.string xb) := by (go_simp; done)
  have nf0 : ∀ k, (((w3.setCell ⟨Q, 0, none⟩ (.int .i64 tb)).setCell ⟨Q, 1, none⟩ (.int .i64 nb)).setCell ⟨Q, 2, none⟩ (.string xb)).frozen? ⟨P, k, none⟩ = false := fun k => by simp [f0]
  have ng0 : ∀ k, (((w3.setCell ⟨Q, 0, none⟩ (.int .i64 tb)).setCell ⟨Q, 1, none⟩ (.int .i64 nb)).setCell ⟨Q, 2, none⟩ (.string xb)).frozen? ⟨Q, k, none⟩ = false := fun k => by simp [g0]
  have nhz : Q < (((w3.setCell ⟨Q, 0, none⟩ (.int .i64 tb)).setCell ⟨Q, 1, none⟩ (.int .i64 nb)).setCell ⟨Q, 2, none⟩ (.string xb)).heap.size := by simpa using hz
  have nB : Below w.heap.size w (((w3.setCell ⟨Q, 0, none⟩ (.int .i64 tb)).setCell ⟨Q, 1, none⟩ (.int .i64 nb)).setCell ⟨Q, 2, none⟩ (.string xb)) := ((B.setCell (p := ⟨Q, 0, none⟩) hwQ _).setCell (p := ⟨Q, 1, none⟩) hwQ _).setCell (p := ⟨Q, 2, none⟩) hwQ _
  refine (text_any _ _).mono ?_
  rintro e w4 ⟨rfl, hb⟩
  have d10 := keep_cell hb (Nat.lt_trans hPQ nhz) np0
  have d11 := keep_cell hb (Nat.lt_trans hPQ nhz) np1
  have d12 := keep_cell hb (Nat.lt_trans hPQ nhz) np2
  have d20 := keep_cell hb nhz nq0
  have d21 := keep_cell hb nhz nq1
  have d22 := keep_cell hb nhz nq2
  replace B := nB.trans (hb.mono nB.size)
  have y2 := Nat.lt_of_lt_of_le nhz hb.size
  have y1 : P < w4.heap.size := Nat.lt_trans hPQ y2
  clear hb nB nhz nf0 ng0 np0 np1 np2 nq0 nq1 nq2 p0 p1 p2 q0 q1 q2 f0 g0 hz
  go_wp2_with fail
  refine (text_any _ _).mono ?_
  rintro e x11 ⟨rfl, hb⟩
  replace d10 := up_cell hb y1 d10
  replace d11 := up_cell hb y1 d11
  replace d12 := up_cell hb y1 d12
  replace y1 := up_size hb (Nat.le_of_lt y1)
  replace d20 := up_cell hb y2 d20
  replace d21 := up_cell hb y2 d21
  replace d22 := up_cell hb y2 d22
  replace y2 := up_size hb (Nat.le_of_lt y2)
  obtain ⟨d30, d31, d32⟩ := new_cell hb
  have y3 : w4.heap.size < x11.heap.size := up_size hb (Nat.le_refl _)
  replace B := up_below hb B
  clear hb
  go_wp2_with fail
  refine (bin_plus xa xb hla hlb hl _).mono ?_
  rintro e x12 ⟨rfl, hb⟩
  replace d10 := up_cell hb y1 d10
  replace d11 := up_cell hb y1 d11
  replace d12 := up_cell hb y1 d12
  replace y1 := up_size hb (Nat.le_of_lt y1)
  replace d20 := up_cell hb y2 d20
  replace d21 := up_cell hb y2 d21
  replace d22 := up_cell hb y2 d22
  replace y2 := up_size hb (Nat.le_of_lt y2)
  replace d30 := up_cell hb y3 d30
  replace d31 := up_cell hb y3 d31
  replace d32 := up_cell hb y3 d32
  replace y3 := up_size hb (Nat.le_of_lt y3)
  obtain ⟨d40, d41, d42⟩ := new_cell hb
  have y4 : x11.heap.size < x12.heap.size := up_size hb (Nat.le_refl _)
  replace B := up_below hb B
  clear hb
  have hI : (xa.size : Int) + (xb.size : Int) ≤ 40 := by omega
  have hI1 : (xa.size : Int) ≤ 60 := by omega
  have hI2 : (xb.size : Int) ≤ 60 := by omega
  go_wp2_with fail
  refine (MA'.out _).mono ?_
  rintro e x13 ⟨rfl, hb⟩
  replace d10 := up_cell hb y1 d10
  replace d11 := up_cell hb y1 d11
  replace d12 := up_cell hb y1 d12
  replace y1 := up_size hb (Nat.le_of_lt y1)
  replace d20 := up_cell hb y2 d20
  replace d21 := up_cell hb y2 d21
  replace d22 := up_cell hb y2 d22
  replace y2 := up_size hb (Nat.le_of_lt y2)
  replace d30 := up_cell hb y3 d30
  replace d31 := up_cell hb y3 d31
  replace d32 := up_cell hb y3 d32
  replace y3 := up_size hb (Nat.le_of_lt y3)
  replace d40 := up_cell hb y4 d40
  replace d41 := up_cell hb y4 d41
  replace d42 := up_cell hb y4 d42
  replace y4 := up_size hb (Nat.le_of_lt y4)
  obtain ⟨d50, d51, d52⟩ := new_cell hb
  have y5 : x12.heap.size < x13.heap.size := up_size hb (Nat.le_refl _)
  replace B := up_below hb B
  clear hb
  clear hI
  go_wp2
  go_ret
  exact ⟨rfl, B⟩

set_option maxRecDepth 100000 in
set_option maxHeartbeats 8000000 in
theorem txt_notA_long (ta na tb nb : Int) (sa sb xa xb : ByteArray) (hla : xa.size ≤ 60) (hlb : xb.size ≤ 60) (hl : 40 < xa.size + xb.size)
    (SA : ∀ w, Calls Tryd.prog 11 #[.agg #[.int .i64 ta, .int .i64 na, .string sa]] w fun e w' => e = .returned (.agg #[.int .i64 ta, .int .i64 na, .string xa]) ∧ Below w.heap.size w w')
    (SB : ∀ w, Calls Tryd.prog 11 #[.agg #[.int .i64 tb, .int .i64 nb, .string sb]] w fun e w' => e = .returned (.agg #[.int .i64 tb, .int .i64 nb, .string xb]) ∧ Below w.heap.size w w')
    (MA : ∀ w, Calls Tryd.prog 25 #[.agg #[.int .i64 ta, .int .i64 na, .string xa]] w fun e w' => e = .returned (.bool false) ∧ Below w.heap.size w w')
    (w : World) (hT : TabW w) :
    Calls Tryd.prog 6 #[.agg #[.int .i64 ta, .int .i64 na, .string sa], .agg #[.int .i64 tb, .int .i64 nb, .string sb]] w fun e w' => e = .returned (.bool true) ∧ Below w.heap.size w w' := by
  have SA' := Lib.hid SA
  have SB' := Lib.hid SB
  have MA' := Lib.hid MA
  have HT := Lib.hid hT
  clear hT SA SB MA
  go_enter Tryd.func6, Tryd.ntmps6
  go_wp2_with fail
  refine (shown_any _).mono ?_
  rintro e w1 ⟨rfl, hb1⟩
  have p0 : w1.cell? ⟨w.heap.size, 0, none⟩ = some (.int .i64 ta) := (hb1.cell (p := ⟨w.heap.size, 0, none⟩) (by simp; omega)).trans (by simp)
  have p1 : w1.cell? ⟨w.heap.size, 1, none⟩ = some (.int .i64 na) := (hb1.cell (p := ⟨w.heap.size, 1, none⟩) (by simp; omega)).trans (by simp)
  have p2 : w1.cell? ⟨w.heap.size, 2, none⟩ = some (.string sa) := (hb1.cell (p := ⟨w.heap.size, 2, none⟩) (by simp; omega)).trans (by simp)
  have q0 : w1.cell? ⟨w.heap.size + 1, 0, none⟩ = some (.int .i64 tb) := (hb1.cell (p := ⟨w.heap.size + 1, 0, none⟩) (by simp)).trans (by simp)
  have q1 : w1.cell? ⟨w.heap.size + 1, 1, none⟩ = some (.int .i64 nb) := (hb1.cell (p := ⟨w.heap.size + 1, 1, none⟩) (by simp)).trans (by simp)
  have q2 : w1.cell? ⟨w.heap.size + 1, 2, none⟩ = some (.string sb) := (hb1.cell (p := ⟨w.heap.size + 1, 2, none⟩) (by simp)).trans (by simp)
  have f0 : ∀ k, w1.frozen? ⟨w.heap.size, k, none⟩ = false := fun k => (hb1.frozen (p := ⟨w.heap.size, k, none⟩) (by simp; omega)).trans (by simp)
  have g0 : ∀ k, w1.frozen? ⟨w.heap.size + 1, k, none⟩ = false := fun k => (hb1.frozen (p := ⟨w.heap.size + 1, k, none⟩) (by simp)).trans (by simp)
  have hz : w.heap.size + 1 < w1.heap.size := by have := hb1.size; simp at this; omega
  have B : Below w.heap.size w w1 := (((Below.refl _ _).alloc (Nat.le_refl _) _).alloc (by simp) _).trans (hb1.mono (by simp; omega))
  obtain ⟨P, hP⟩ : ∃ P : Nat, P = w.heap.size := ⟨_, rfl⟩
  obtain ⟨Q, hQ⟩ : ∃ Q : Nat, Q = w.heap.size + 1 := ⟨_, rfl⟩
  clear hb1
  rw [← hQ] at q0 q1 q2 g0 hz
  rw [← hP] at p0 p1 p2 f0
  have hPQ : P < Q := by omega
  have hwP : w.heap.size ≤ P := by omega
  have hwQ : w.heap.size ≤ Q := by omega
  rw [← hQ, ← hP]
  clear hP hQ
  go_wp2_with fail
  refine (SA'.out _).mono ?_
  rintro e w2 ⟨rfl, hb⟩
  replace p0 := keep_cell hb (by omega) p0
  replace p1 := keep_cell hb (by omega) p1
  replace p2 := keep_cell hb (by omega) p2
  replace q0 := keep_cell hb hz q0
  replace q1 := keep_cell hb hz q1
  replace q2 := keep_cell hb hz q2
  replace f0 := fun k => ((bcell hb).2 P k (by omega)).trans (f0 k)
  replace g0 := fun k => ((bcell hb).2 Q k hz).trans (g0 k)
  replace hz := Nat.lt_of_lt_of_le hz hb.size
  replace B := B.trans (hb.mono B.size)
  clear hb
  have hPQ1 : ¬ P = Q := by omega
  have hPQ2 : ¬ Q = P := by omega
  go_wp2_with fail
  have np0 : (((w2.setCell ⟨P, 0, none⟩ (.int .i64 ta)).setCell ⟨P, 1, none⟩ (.int .i64 na)).setCell ⟨P, 2, none⟩ (.string xa)).cell? ⟨P, 0, none⟩ = some (.int .i64 ta) := by (go_simp; done)
  have np1 : (((w2.setCell ⟨P, 0, none⟩ (.int .i64 ta)).setCell ⟨P, 1, none⟩ (.int .i64 na)).setCell ⟨P, 2, none⟩ (.string xa)).cell? ⟨P, 1, none⟩ = some (.int .i64 na) := by (go_simp; done)
  have np2 : (((w2.setCell ⟨P, 0, none⟩ (.int .i64 ta)).setCell ⟨P, 1, none⟩ (.int .i64 na)).setCell ⟨P, 2, none⟩ (.string xa)).cell? ⟨P, 2, none⟩ = some (.string xa) := by (go_simp; done)
  have nq0 : (((w2.setCell ⟨P, 0, none⟩ (.int .i64 ta)).setCell ⟨P, 1, none⟩ (.int .i64 na)).setCell ⟨P, 2, none⟩ (.string xa)).cell? ⟨Q, 0, none⟩ = some (.int .i64 tb) := by (go_simp; done)
  have nq1 : (((w2.setCell ⟨P, 0, none⟩ (.int .i64 ta)).setCell ⟨P, 1, none⟩ (.int .i64 na)).setCell ⟨P, 2, none⟩ (.string xa)).cell? ⟨Q, 1, none⟩ = some (.int .i64 nb) := by (go_simp; done)
  have nq2 : (((w2.setCell ⟨P, 0, none⟩ (.int .i64 ta)).setCell ⟨P, 1, none⟩ (.int .i64 na)).setCell ⟨P, 2, none⟩ (.string xa)).cell? ⟨Q, 2, none⟩ = some (.string sb) := by (go_simp; done)
  have nf0 : ∀ k, (((w2.setCell ⟨P, 0, none⟩ (.int .i64 ta)).setCell ⟨P, 1, none⟩ (.int .i64 na)).setCell ⟨P, 2, none⟩ (.string xa)).frozen? ⟨P, k, none⟩ = false := fun k => by simp [f0]
  have ng0 : ∀ k, (((w2.setCell ⟨P, 0, none⟩ (.int .i64 ta)).setCell ⟨P, 1, none⟩ (.int .i64 na)).setCell ⟨P, 2, none⟩ (.string xa)).frozen? ⟨Q, k, none⟩ = false := fun k => by simp [g0]
  have nhz : Q < (((w2.setCell ⟨P, 0, none⟩ (.int .i64 ta)).setCell ⟨P, 1, none⟩ (.int .i64 na)).setCell ⟨P, 2, none⟩ (.string xa)).heap.size := by simpa using hz
  have nB : Below w.heap.size w (((w2.setCell ⟨P, 0, none⟩ (.int .i64 ta)).setCell ⟨P, 1, none⟩ (.int .i64 na)).setCell ⟨P, 2, none⟩ (.string xa)) := ((B.setCell (p := ⟨P, 0, none⟩) hwP _).setCell (p := ⟨P, 1, none⟩) hwP _).setCell (p := ⟨P, 2, none⟩) hwP _
  refine (SB'.out _).mono ?_
  rintro e w3 ⟨rfl, hb⟩
  replace p0 := keep_cell hb (Nat.lt_trans hPQ nhz) np0
  replace p1 := keep_cell hb (Nat.lt_trans hPQ nhz) np1
  replace p2 := keep_cell hb (Nat.lt_trans hPQ nhz) np2
  replace q0 := keep_cell hb nhz nq0
  replace q1 := keep_cell hb nhz nq1
  replace q2 := keep_cell hb nhz nq2
  replace f0 := fun k => ((bcell hb).2 P k (Nat.lt_trans hPQ nhz)).trans (nf0 k)
  replace g0 := fun k => ((bcell hb).2 Q k nhz).trans (ng0 k)
  replace B := nB.trans (hb.mono nB.size)
  replace hz := Nat.lt_of_lt_of_le nhz hb.size
  clear hb nB nhz nf0 ng0 np0 np1 np2 nq0 nq1 nq2
  go_wp2_with fail
  have np0 : (((w3.setCell ⟨Q, 0, none⟩ (.int .i64 tb)).setCell ⟨Q, 1, none⟩ (.int .i64 nb)).setCell ⟨Q, 2, none⟩ (.string xb)).cell? ⟨P, 0, none⟩ = some (.int .i64 ta) := by (go_simp; done)
  have np1 : (((w3.setCell ⟨Q, 0, none⟩ (.int .i64 tb)).setCell ⟨Q, 1, none⟩ (.int .i64 nb)).setCell ⟨Q, 2, none⟩ (.string xb)).cell? ⟨P, 1, none⟩ = some (.int .i64 na) := by (go_simp; done)
  have np2 : (((w3.setCell ⟨Q, 0, none⟩ (.int .i64 tb)).setCell ⟨Q, 1, none⟩ (.int .i64 nb)).setCell ⟨Q, 2, none⟩ (.string xb)).cell? ⟨P, 2, none⟩ = some (.string xa) := by (go_simp; done)
  have nq0 : (((w3.setCell ⟨Q, 0, none⟩ (.int .i64 tb)).setCell ⟨Q, 1, none⟩ (.int .i64 nb)).setCell ⟨Q, 2, none⟩ (.string xb)).cell? ⟨Q, 0, none⟩ = some (.int .i64 tb) := by (go_simp; done)
  have nq1 : (((w3.setCell ⟨Q, 0, none⟩ (.int .i64 tb)).setCell ⟨Q, 1, none⟩ (.int .i64 nb)).setCell ⟨Q, 2, none⟩ (.string xb)).cell? ⟨Q, 1, none⟩ = some (.int .i64 nb) := by (go_simp; done)
  have nq2 : (((w3.setCell ⟨Q, 0, none⟩ (.int .i64 tb)).setCell ⟨Q, 1, none⟩ (.int .i64 nb)).setCell ⟨Q, 2, none⟩ (.string xb)).cell? ⟨Q, 2, none⟩ = some (.string xb) := by (go_simp; done)
  have nf0 : ∀ k, (((w3.setCell ⟨Q, 0, none⟩ (.int .i64 tb)).setCell ⟨Q, 1, none⟩ (.int .i64 nb)).setCell ⟨Q, 2, none⟩ (.string xb)).frozen? ⟨P, k, none⟩ = false := fun k => by simp [f0]
  have ng0 : ∀ k, (((w3.setCell ⟨Q, 0, none⟩ (.int .i64 tb)).setCell ⟨Q, 1, none⟩ (.int .i64 nb)).setCell ⟨Q, 2, none⟩ (.string xb)).frozen? ⟨Q, k, none⟩ = false := fun k => by simp [g0]
  have nhz : Q < (((w3.setCell ⟨Q, 0, none⟩ (.int .i64 tb)).setCell ⟨Q, 1, none⟩ (.int .i64 nb)).setCell ⟨Q, 2, none⟩ (.string xb)).heap.size := by simpa using hz
  have nB : Below w.heap.size w (((w3.setCell ⟨Q, 0, none⟩ (.int .i64 tb)).setCell ⟨Q, 1, none⟩ (.int .i64 nb)).setCell ⟨Q, 2, none⟩ (.string xb)) := ((B.setCell (p := ⟨Q, 0, none⟩) hwQ _).setCell (p := ⟨Q, 1, none⟩) hwQ _).setCell (p := ⟨Q, 2, none⟩) hwQ _
  refine (text_any _ _).mono ?_
  rintro e w4 ⟨rfl, hb⟩
  have d10 := keep_cell hb (Nat.lt_trans hPQ nhz) np0
  have d11 := keep_cell hb (Nat.lt_trans hPQ nhz) np1
  have d12 := keep_cell hb (Nat.lt_trans hPQ nhz) np2
  have d20 := keep_cell hb nhz nq0
  have d21 := keep_cell hb nhz nq1
  have d22 := keep_cell hb nhz nq2
  replace B := nB.trans (hb.mono nB.size)
  have y2 := Nat.lt_of_lt_of_le nhz hb.size
  have y1 : P < w4.heap.size := Nat.lt_trans hPQ y2
  clear hb nB nhz nf0 ng0 np0 np1 np2 nq0 nq1 nq2 p0 p1 p2 q0 q1 q2 f0 g0 hz
  go_wp2_with fail
  refine (text_any _ _).mono ?_
  rintro e x11 ⟨rfl, hb⟩
  replace d10 := up_cell hb y1 d10
  replace d11 := up_cell hb y1 d11
  replace d12 := up_cell hb y1 d12
  replace y1 := up_size hb (Nat.le_of_lt y1)
  replace d20 := up_cell hb y2 d20
  replace d21 := up_cell hb y2 d21
  replace d22 := up_cell hb y2 d22
  replace y2 := up_size hb (Nat.le_of_lt y2)
  obtain ⟨d30, d31, d32⟩ := new_cell hb
  have y3 : w4.heap.size < x11.heap.size := up_size hb (Nat.le_refl _)
  replace B := up_below hb B
  clear hb
  go_wp2_with fail
  refine (bin_long xa xb hla hlb hl _).mono ?_
  rintro e x12 ⟨rfl, hb⟩
  replace d10 := up_cell hb y1 d10
  replace d11 := up_cell hb y1 d11
  replace d12 := up_cell hb y1 d12
  replace y1 := up_size hb (Nat.le_of_lt y1)
  replace d20 := up_cell hb y2 d20
  replace d21 := up_cell hb y2 d21
  replace d22 := up_cell hb y2 d22
  replace y2 := up_size hb (Nat.le_of_lt y2)
  replace d30 := up_cell hb y3 d30
  replace d31 := up_cell hb y3 d31
  replace d32 := up_cell hb y3 d32
  replace y3 := up_size hb (Nat.le_of_lt y3)
  obtain ⟨d40, d41, d42⟩ := new_cell hb
  have y4 : x11.heap.size < x12.heap.size := up_size hb (Nat.le_refl _)
  replace B := up_below hb B
  clear hb
  have hI : ¬ (xa.size : Int) + (xb.size : Int) ≤ 40 := by omega
  have hI1 : (xa.size : Int) ≤ 60 := by omega
  have hI2 : (xb.size : Int) ≤ 60 := by omega
  have hI3 : decide ((xa.size : Int) + (xb.size : Int) ≤ 40) = false := by simpa using hI
  go_wp2_with fail
  refine (MA'.out _).mono ?_
  rintro e x13 ⟨rfl, hb⟩
  replace d10 := up_cell hb y1 d10
  replace d11 := up_cell hb y1 d11
  replace d12 := up_cell hb y1 d12
  replace y1 := up_size hb (Nat.le_of_lt y1)
  replace d20 := up_cell hb y2 d20
  replace d21 := up_cell hb y2 d21
  replace d22 := up_cell hb y2 d22
  replace y2 := up_size hb (Nat.le_of_lt y2)
  replace d30 := up_cell hb y3 d30
  replace d31 := up_cell hb y3 d31
  replace d32 := up_cell hb y3 d32
  replace y3 := up_size hb (Nat.le_of_lt y3)
  replace d40 := up_cell hb y4 d40
  replace d41 := up_cell hb y4 d41
  replace d42 := up_cell hb y4 d42
  replace y4 := up_size hb (Nat.le_of_lt y4)
  obtain ⟨d50, d51, d52⟩ := new_cell hb
  have y5 : x12.heap.size < x13.heap.size := up_size hb (Nat.le_refl _)
  replace B := up_below hb B
  clear hb
  clear hI hI3
  go_wp2
  go_ret
  exact ⟨rfl, B⟩

set_option maxRecDepth 100000 in
set_option maxHeartbeats 8000000 in
theorem txt_notB_fits (ta na tb nb : Int) (sa sb xa xb : ByteArray) (hla : xa.size ≤ 60) (hlb : xb.size ≤ 60) (hl : xa.size + xb.size ≤ 40)
    (SA : ∀ w, Calls Tryd.prog 11 #[.agg #[.int .i64 ta, .int .i64 na, .string sa]] w fun e w' => e = .returned (.agg #[.int .i64 ta, .int .i64 na, .string xa]) ∧ Below w.heap.size w w')
    (SB : ∀ w, Calls Tryd.prog 11 #[.agg #[.int .i64 tb, .int .i64 nb, .string sb]] w fun e w' => e = .returned (.agg #[.int .i64 tb, .int .i64 nb, .string xb]) ∧ Below w.heap.size w w')
    (MA : ∀ w, Calls Tryd.prog 25 #[.agg #[.int .i64 ta, .int .i64 na, .string xa]] w fun e w' => e = .returned (.bool true) ∧ Below w.heap.size w w')
    (MB : ∀ w, Calls Tryd.prog 25 #[.agg #[.int .i64 tb, .int .i64 nb, .string xb]] w fun e w' => e = .returned (.bool false) ∧ Below w.heap.size w w')
    (w : World) (hT : TabW w) :
    Calls Tryd.prog 6 #[.agg #[.int .i64 ta, .int .i64 na, .string sa], .agg #[.int .i64 tb, .int .i64 nb, .string sb]] w fun e w' => e = .returned (.bool true) ∧ Below w.heap.size w w' := by
  have SA' := Lib.hid SA
  have SB' := Lib.hid SB
  have MA' := Lib.hid MA
  have MB' := Lib.hid MB
  have HT := Lib.hid hT
  clear hT SA SB MA MB
  go_enter Tryd.func6, Tryd.ntmps6
  go_wp2_with fail
  refine (shown_any _).mono ?_
  rintro e w1 ⟨rfl, hb1⟩
  have p0 : w1.cell? ⟨w.heap.size, 0, none⟩ = some (.int .i64 ta) := (hb1.cell (p := ⟨w.heap.size, 0, none⟩) (by simp; omega)).trans (by simp)
  have p1 : w1.cell? ⟨w.heap.size, 1, none⟩ = some (.int .i64 na) := (hb1.cell (p := ⟨w.heap.size, 1, none⟩) (by simp; omega)).trans (by simp)
  have p2 : w1.cell? ⟨w.heap.size, 2, none⟩ = some (.string sa) := (hb1.cell (p := ⟨w.heap.size, 2, none⟩) (by simp; omega)).trans (by simp)
  have q0 : w1.cell? ⟨w.heap.size + 1, 0, none⟩ = some (.int .i64 tb) := (hb1.cell (p := ⟨w.heap.size + 1, 0, none⟩) (by simp)).trans (by simp)
  have q1 : w1.cell? ⟨w.heap.size + 1, 1, none⟩ = some (.int .i64 nb) := (hb1.cell (p := ⟨w.heap.size + 1, 1, none⟩) (by simp)).trans (by simp)
  have q2 : w1.cell? ⟨w.heap.size + 1, 2, none⟩ = some (.string sb) := (hb1.cell (p := ⟨w.heap.size + 1, 2, none⟩) (by simp)).trans (by simp)
  have f0 : ∀ k, w1.frozen? ⟨w.heap.size, k, none⟩ = false := fun k => (hb1.frozen (p := ⟨w.heap.size, k, none⟩) (by simp; omega)).trans (by simp)
  have g0 : ∀ k, w1.frozen? ⟨w.heap.size + 1, k, none⟩ = false := fun k => (hb1.frozen (p := ⟨w.heap.size + 1, k, none⟩) (by simp)).trans (by simp)
  have hz : w.heap.size + 1 < w1.heap.size := by have := hb1.size; simp at this; omega
  have B : Below w.heap.size w w1 := (((Below.refl _ _).alloc (Nat.le_refl _) _).alloc (by simp) _).trans (hb1.mono (by simp; omega))
  obtain ⟨P, hP⟩ : ∃ P : Nat, P = w.heap.size := ⟨_, rfl⟩
  obtain ⟨Q, hQ⟩ : ∃ Q : Nat, Q = w.heap.size + 1 := ⟨_, rfl⟩
  clear hb1
  rw [← hQ] at q0 q1 q2 g0 hz
  rw [← hP] at p0 p1 p2 f0
  have hPQ : P < Q := by omega
  have hwP : w.heap.size ≤ P := by omega
  have hwQ : w.heap.size ≤ Q := by omega
  rw [← hQ, ← hP]
  clear hP hQ
  go_wp2_with fail
  refine (SA'.out _).mono ?_
  rintro e w2 ⟨rfl, hb⟩
  replace p0 := keep_cell hb (by omega) p0
  replace p1 := keep_cell hb (by omega) p1
  replace p2 := keep_cell hb (by omega) p2
  replace q0 := keep_cell hb hz q0
  replace q1 := keep_cell hb hz q1
  replace q2 := keep_cell hb hz q2
  replace f0 := fun k => ((bcell hb).2 P k (by omega)).trans (f0 k)
  replace g0 := fun k => ((bcell hb).2 Q k hz).trans (g0 k)
  replace hz := Nat.lt_of_lt_of_le hz hb.size
  replace B := B.trans (hb.mono B.size)
  clear hb
  have hPQ1 : ¬ P = Q := by omega
  have hPQ2 : ¬ Q = P := by omega
  go_wp2_with fail
  have np0 : (((w2.setCell ⟨P, 0, none⟩ (.int .i64 ta)).setCell ⟨P, 1, none⟩ (.int .i64 na)).setCell ⟨P, 2, none⟩ (.string xa)).cell? ⟨P, 0, none⟩ = some (.int .i64 ta) := by (go_simp; done)
  have np1 : (((w2.setCell ⟨P, 0, none⟩ (.int .i64 ta)).setCell ⟨P, 1, none⟩ (.int .i64 na)).setCell ⟨P, 2, none⟩ (.string xa)).cell? ⟨P, 1, none⟩ = some (.int .i64 na) := by (go_simp; done)
  have np2 : (((w2.setCell ⟨P, 0, none⟩ (.int .i64 ta)).setCell ⟨P, 1, none⟩ (.int .i64 na)).setCell ⟨P, 2, none⟩ (.string xa)).cell? ⟨P, 2, none⟩ = some (.string xa) := by (go_simp; done)
  have nq0 : (((w2.setCell ⟨P, 0, none⟩ (.int .i64 ta)).setCell ⟨P, 1, none⟩ (.int .i64 na)).setCell ⟨P, 2, none⟩ (.string xa)).cell? ⟨Q, 0, none⟩ = some (.int .i64 tb) := by (go_simp; done)
  have nq1 : (((w2.setCell ⟨P, 0, none⟩ (.int .i64 ta)).setCell ⟨P, 1, none⟩ (.int .i64 na)).setCell ⟨P, 2, none⟩ (.string xa)).cell? ⟨Q, 1, none⟩ = some (.int .i64 nb) := by (go_simp; done)
  have nq2 : (((w2.setCell ⟨P, 0, none⟩ (.int .i64 ta)).setCell ⟨P, 1, none⟩ (.int .i64 na)).setCell ⟨P, 2, none⟩ (.string xa)).cell? ⟨Q, 2, none⟩ = some (.string sb) := by (go_simp; done)
  have nf0 : ∀ k, (((w2.setCell ⟨P, 0, none⟩ (.int .i64 ta)).setCell ⟨P, 1, none⟩ (.int .i64 na)).setCell ⟨P, 2, none⟩ (.string xa)).frozen? ⟨P, k, none⟩ = false := fun k => by simp [f0]
  have ng0 : ∀ k, (((w2.setCell ⟨P, 0, none⟩ (.int .i64 ta)).setCell ⟨P, 1, none⟩ (.int .i64 na)).setCell ⟨P, 2, none⟩ (.string xa)).frozen? ⟨Q, k, none⟩ = false := fun k => by simp [g0]
  have nhz : Q < (((w2.setCell ⟨P, 0, none⟩ (.int .i64 ta)).setCell ⟨P, 1, none⟩ (.int .i64 na)).setCell ⟨P, 2, none⟩ (.string xa)).heap.size := by simpa using hz
  have nB : Below w.heap.size w (((w2.setCell ⟨P, 0, none⟩ (.int .i64 ta)).setCell ⟨P, 1, none⟩ (.int .i64 na)).setCell ⟨P, 2, none⟩ (.string xa)) := ((B.setCell (p := ⟨P, 0, none⟩) hwP _).setCell (p := ⟨P, 1, none⟩) hwP _).setCell (p := ⟨P, 2, none⟩) hwP _
  refine (SB'.out _).mono ?_
  rintro e w3 ⟨rfl, hb⟩
  replace p0 := keep_cell hb (Nat.lt_trans hPQ nhz) np0
  replace p1 := keep_cell hb (Nat.lt_trans hPQ nhz) np1
  replace p2 := keep_cell hb (Nat.lt_trans hPQ nhz) np2
  replace q0 := keep_cell hb nhz nq0
  replace q1 := keep_cell hb nhz nq1
  replace q2 := keep_cell hb nhz nq2
  replace f0 := fun k => ((bcell hb).2 P k (Nat.lt_trans hPQ nhz)).trans (nf0 k)
  replace g0 := fun k => ((bcell hb).2 Q k nhz).trans (ng0 k)
  replace B := nB.trans (hb.mono nB.size)
  replace hz := Nat.lt_of_lt_of_le nhz hb.size
  clear hb nB nhz nf0 ng0 np0 np1 np2 nq0 nq1 nq2
  go_wp2_with fail
  have np0 : (((w3.setCell ⟨Q, 0, none⟩ (.int .i64 tb)).setCell ⟨Q, 1, none⟩ (.int .i64 nb)).setCell ⟨Q, 2, none⟩ (.string xb)).cell? ⟨P, 0, none⟩ = some (.int .i64 ta) := by (go_simp; done)
  have np1 : (((w3.setCell ⟨Q, 0, none⟩ (.int .i64 tb)).setCell ⟨Q, 1, none⟩ (.int .i64 nb)).setCell ⟨Q, 2, none⟩ (.string xb)).cell? ⟨P, 1, none⟩ = some (.int .i64 na) := by (go_simp; done)
  have np2 : (((w3.setCell ⟨Q, 0, none⟩ (.int .i64 tb)).setCell ⟨Q, 1, none⟩ (.int .i64 nb)).setCell ⟨Q, 2, none⟩ (.string xb)).cell? ⟨P, 2, none⟩ = some (.string xa) := by (go_simp; done)
  have nq0 : (((w3.setCell ⟨Q, 0, none⟩ (.int .i64 tb)).setCell ⟨Q, 1, none⟩ (.int .i64 nb)).setCell ⟨Q, 2, none⟩ (.string xb)).cell? ⟨Q, 0, none⟩ = some (.int .i64 tb) := by (go_simp; done)
  have nq1 : (((w3.setCell ⟨Q, 0, none⟩ (.int .i64 tb)).setCell ⟨Q, 1, none⟩ (.int .i64 nb)).setCell ⟨Q, 2, none⟩ (.string xb)).cell? ⟨Q, 1, none⟩ = some (.int .i64 nb) := by (go_simp; done)
  have nq2 : (((w3.setCell ⟨Q, 0, none⟩ (.int .i64 tb)).setCell ⟨Q, 1, none⟩ (.int .i64 nb)).setCell ⟨Q, 2, none⟩ (.string xb)).cell? ⟨Q, 2, none⟩ = some (.string xb) := by (go_simp; done)
  have nf0 : ∀ k, (((w3.setCell ⟨Q, 0, none⟩ (.int .i64 tb)).setCell ⟨Q, 1, none⟩ (.int .i64 nb)).setCell ⟨Q, 2, none⟩ (.string xb)).frozen? ⟨P, k, none⟩ = false := fun k => by simp [f0]
  have ng0 : ∀ k, (((w3.setCell ⟨Q, 0, none⟩ (.int .i64 tb)).setCell ⟨Q, 1, none⟩ (.int .i64 nb)).setCell ⟨Q, 2, none⟩ (.string xb)).frozen? ⟨Q, k, none⟩ = false := fun k => by simp [g0]
  have nhz : Q < (((w3.setCell ⟨Q, 0, none⟩ (.int .i64 tb)).setCell ⟨Q, 1, none⟩ (.int .i64 nb)).setCell ⟨Q, 2, none⟩ (.string xb)).heap.size := by simpa using hz
  have nB : Below w.heap.size w (((w3.setCell ⟨Q, 0, none⟩ (.int .i64 tb)).setCell ⟨Q, 1, none⟩ (.int .i64 nb)).setCell ⟨Q, 2, none⟩ (.string xb)) := ((B.setCell (p := ⟨Q, 0, none⟩) hwQ _).setCell (p := ⟨Q, 1, none⟩) hwQ _).setCell (p := ⟨Q, 2, none⟩) hwQ _
  refine (text_any _ _).mono ?_
  rintro e w4 ⟨rfl, hb⟩
  have d10 := keep_cell hb (Nat.lt_trans hPQ nhz) np0
  have d11 := keep_cell hb (Nat.lt_trans hPQ nhz) np1
  have d12 := keep_cell hb (Nat.lt_trans hPQ nhz) np2
  have d20 := keep_cell hb nhz nq0
  have d21 := keep_cell hb nhz nq1
  have d22 := keep_cell hb nhz nq2
  replace B := nB.trans (hb.mono nB.size)
  have y2 := Nat.lt_of_lt_of_le nhz hb.size
  have y1 : P < w4.heap.size := Nat.lt_trans hPQ y2
  clear hb nB nhz nf0 ng0 np0 np1 np2 nq0 nq1 nq2 p0 p1 p2 q0 q1 q2 f0 g0 hz
  go_wp2_with fail
  refine (text_any _ _).mono ?_
  rintro e x11 ⟨rfl, hb⟩
  replace d10 := up_cell hb y1 d10
  replace d11 := up_cell hb y1 d11
  replace d12 := up_cell hb y1 d12
  replace y1 := up_size hb (Nat.le_of_lt y1)
  replace d20 := up_cell hb y2 d20
  replace d21 := up_cell hb y2 d21
  replace d22 := up_cell hb y2 d22
  replace y2 := up_size hb (Nat.le_of_lt y2)
  obtain ⟨d30, d31, d32⟩ := new_cell hb
  have y3 : w4.heap.size < x11.heap.size := up_size hb (Nat.le_refl _)
  replace B := up_below hb B
  clear hb
  go_wp2_with fail
  refine (bin_plus xa xb hla hlb hl _).mono ?_
  rintro e x12 ⟨rfl, hb⟩
  replace d10 := up_cell hb y1 d10
  replace d11 := up_cell hb y1 d11
  replace d12 := up_cell hb y1 d12
  replace y1 := up_size hb (Nat.le_of_lt y1)
  replace d20 := up_cell hb y2 d20
  replace d21 := up_cell hb y2 d21
  replace d22 := up_cell hb y2 d22
  replace y2 := up_size hb (Nat.le_of_lt y2)
  replace d30 := up_cell hb y3 d30
  replace d31 := up_cell hb y3 d31
  replace d32 := up_cell hb y3 d32
  replace y3 := up_size hb (Nat.le_of_lt y3)
  obtain ⟨d40, d41, d42⟩ := new_cell hb
  have y4 : x11.heap.size < x12.heap.size := up_size hb (Nat.le_refl _)
  replace B := up_below hb B
  clear hb
  have hI : (xa.size : Int) + (xb.size : Int) ≤ 40 := by omega
  have hI1 : (xa.size : Int) ≤ 60 := by omega
  have hI2 : (xb.size : Int) ≤ 60 := by omega
  go_wp2_with fail
  refine (MA'.out _).mono ?_
  rintro e x13 ⟨rfl, hb⟩
  replace d10 := up_cell hb y1 d10
  replace d11 := up_cell hb y1 d11
  replace d12 := up_cell hb y1 d12
  replace y1 := up_size hb (Nat.le_of_lt y1)
  replace d20 := up_cell hb y2 d20
  replace d21 := up_cell hb y2 d21
  replace d22 := up_cell hb y2 d22
  replace y2 := up_size hb (Nat.le_of_lt y2)
  replace d30 := up_cell hb y3 d30
  replace d31 := up_cell hb y3 d31
  replace d32 := up_cell hb y3 d32
  replace y3 := up_size hb (Nat.le_of_lt y3)
  replace d40 := up_cell hb y4 d40
  replace d41 := up_cell hb y4 d41
  replace d42 := up_cell hb y4 d42
  replace y4 := up_size hb (Nat.le_of_lt y4)
  obtain ⟨d50, d51, d52⟩ := new_cell hb
  have y5 : x12.heap.size < x13.heap.size := up_size hb (Nat.le_refl _)
  replace B := up_below hb B
  clear hb
  clear hI
  go_wp2_with fail
  refine (MB'.out _).mono ?_
  rintro e x14 ⟨rfl, hb⟩
  replace d10 := keep_cell hb y1 d10
  replace d11 := keep_cell hb y1 d11
  replace d12 := keep_cell hb y1 d12
  replace y1 := Nat.lt_of_lt_of_le y1 hb.size
  replace d20 := keep_cell hb y2 d20
  replace d21 := keep_cell hb y2 d21
  replace d22 := keep_cell hb y2 d22
  replace y2 := Nat.lt_of_lt_of_le y2 hb.size
  replace d30 := keep_cell hb y3 d30
  replace d31 := keep_cell hb y3 d31
  replace d32 := keep_cell hb y3 d32
  replace y3 := Nat.lt_of_lt_of_le y3 hb.size
  replace d40 := keep_cell hb y4 d40
  replace d41 := keep_cell hb y4 d41
  replace d42 := keep_cell hb y4 d42
  replace y4 := Nat.lt_of_lt_of_le y4 hb.size
  replace d50 := keep_cell hb y5 d50
  replace d51 := keep_cell hb y5 d51
  replace d52 := keep_cell hb y5 d52
  replace y5 := Nat.lt_of_lt_of_le y5 hb.size
  replace B := keep_below B hb
  clear hb
  go_wp2
  go_ret
  exact ⟨rfl, B⟩

set_option maxRecDepth 100000 in
set_option maxHeartbeats 8000000 in
theorem txt_notB_long (ta na tb nb : Int) (sa sb xa xb : ByteArray) (hla : xa.size ≤ 60) (hlb : xb.size ≤ 60) (hl : 40 < xa.size + xb.size)
    (SA : ∀ w, Calls Tryd.prog 11 #[.agg #[.int .i64 ta, .int .i64 na, .string sa]] w fun e w' => e = .returned (.agg #[.int .i64 ta, .int .i64 na, .string xa]) ∧ Below w.heap.size w w')
    (SB : ∀ w, Calls Tryd.prog 11 #[.agg #[.int .i64 tb, .int .i64 nb, .string sb]] w fun e w' => e = .returned (.agg #[.int .i64 tb, .int .i64 nb, .string xb]) ∧ Below w.heap.size w w')
    (MA : ∀ w, Calls Tryd.prog 25 #[.agg #[.int .i64 ta, .int .i64 na, .string xa]] w fun e w' => e = .returned (.bool true) ∧ Below w.heap.size w w')
    (MB : ∀ w, Calls Tryd.prog 25 #[.agg #[.int .i64 tb, .int .i64 nb, .string xb]] w fun e w' => e = .returned (.bool false) ∧ Below w.heap.size w w')
    (w : World) (hT : TabW w) :
    Calls Tryd.prog 6 #[.agg #[.int .i64 ta, .int .i64 na, .string sa], .agg #[.int .i64 tb, .int .i64 nb, .string sb]] w fun e w' => e = .returned (.bool true) ∧ Below w.heap.size w w' := by
  have SA' := Lib.hid SA
  have SB' := Lib.hid SB
  have MA' := Lib.hid MA
  have MB' := Lib.hid MB
  have HT := Lib.hid hT
  clear hT SA SB MA MB
  go_enter Tryd.func6, Tryd.ntmps6
  go_wp2_with fail
  refine (shown_any _).mono ?_
  rintro e w1 ⟨rfl, hb1⟩
  have p0 : w1.cell? ⟨w.heap.size, 0, none⟩ = some (.int .i64 ta) := (hb1.cell (p := ⟨w.heap.size, 0, none⟩) (by simp; omega)).trans (by simp)
  have p1 : w1.cell? ⟨w.heap.size, 1, none⟩ = some (.int .i64 na) := (hb1.cell (p := ⟨w.heap.size, 1, none⟩) (by simp; omega)).trans (by simp)
  have p2 : w1.cell? ⟨w.heap.size, 2, none⟩ = some (.string sa) := (hb1.cell (p := ⟨w.heap.size, 2, none⟩) (by simp; omega)).trans (by simp)
  have q0 : w1.cell? ⟨w.heap.size + 1, 0, none⟩ = some (.int .i64 tb) := (hb1.cell (p := ⟨w.heap.size + 1, 0, none⟩) (by simp)).trans (by simp)
  have q1 : w1.cell? ⟨w.heap.size + 1, 1, none⟩ = some (.int .i64 nb) := (hb1.cell (p := ⟨w.heap.size + 1, 1, none⟩) (by simp)).trans (by simp)
  have q2 : w1.cell? ⟨w.heap.size + 1, 2, none⟩ = some (.string sb) := (hb1.cell (p := ⟨w.heap.size + 1, 2, none⟩) (by simp)).trans (by simp)
  have f0 : ∀ k, w1.frozen? ⟨w.heap.size, k, none⟩ = false := fun k => (hb1.frozen (p := ⟨w.heap.size, k, none⟩) (by simp; omega)).trans (by simp)
  have g0 : ∀ k, w1.frozen? ⟨w.heap.size + 1, k, none⟩ = false := fun k => (hb1.frozen (p := ⟨w.heap.size + 1, k, none⟩) (by simp)).trans (by simp)
  have hz : w.heap.size + 1 < w1.heap.size := by have := hb1.size; simp at this; omega
  have B : Below w.heap.size w w1 := (((Below.refl _ _).alloc (Nat.le_refl _) _).alloc (by simp) _).trans (hb1.mono (by simp; omega))
  obtain ⟨P, hP⟩ : ∃ P : Nat, P = w.heap.size := ⟨_, rfl⟩
  obtain ⟨Q, hQ⟩ : ∃ Q : Nat, Q = w.heap.size + 1 := ⟨_, rfl⟩
  clear hb1
  rw [← hQ] at q0 q1 q2 g0 hz
  rw [← hP] at p0 p1 p2 f0
  have hPQ : P < Q := by omega
  have hwP : w.heap.size ≤ P := by omega
  have hwQ : w.heap.size ≤ Q := by omega
  rw [← hQ, ← hP]
  clear hP hQ
  go_wp2_with fail
  refine (SA'.out _).mono ?_
  rintro e w2 ⟨rfl, hb⟩
  replace p0 := keep_cell hb (by omega) p0
  replace p1 := keep_cell hb (by omega) p1
  replace p2 := keep_cell hb (by omega) p2
  replace q0 := keep_cell hb hz q0
  replace q1 := keep_cell hb hz q1
  replace q2 := keep_cell hb hz q2
  replace f0 := fun k => ((bcell hb).2 P k (by omega)).trans (f0 k)
  replace g0 := fun k => ((bcell hb).2 Q k hz).trans (g0 k)
  replace hz := Nat.lt_of_lt_of_le hz hb.size
  replace B := B.trans (hb.mono B.size)
  clear hb
  have hPQ1 : ¬ P = Q := by omega
  have hPQ2 : ¬ Q = P := by omega
  go_wp2_with fail
  have np0 : (((w2.setCell ⟨P, 0, none⟩ (.int .i64 ta)).setCell ⟨P, 1, none⟩ (.int .i64 na)).setCell ⟨P, 2, none⟩ (.string xa)).cell? ⟨P, 0, none⟩ = some (.int .i64 ta) := by (go_simp; done)
  have np1 : (((w2.setCell ⟨P, 0, none⟩ (.int .i64 ta)).setCell ⟨P, 1, none⟩ (.int .i64 na)).setCell ⟨P, 2, none⟩ (.string xa)).cell? ⟨P, 1, none⟩ = some (.int .i64 na) := by (go_simp; done)
  have np2 : (((w2.setCell ⟨P, 0, none⟩ (.int .i64 ta)).setCell ⟨P, 1, none⟩ (.int .i64 na)).setCell ⟨P, 2, none⟩ (.string xa)).cell? ⟨P, 2, none⟩ = some (.string xa) := by (go_simp; done)
  have nq0 : (((w2.setCell ⟨P, 0, none⟩ (.int .i64 ta)).setCell ⟨P, 1, none⟩ (.int .i64 na)).setCell ⟨P, 2, none⟩ (.string xa)).cell? ⟨Q, 0, none⟩ = some (.int .i64 tb) := by (go_simp; done)
  have nq1 : (((w2.setCell ⟨P, 0, none⟩ (.int .i64 ta)).setCell ⟨P, 1, none⟩ (.int .i64 na)).setCell ⟨P, 2, none⟩ (.string xa)).cell? ⟨Q, 1, none⟩ = some (.int .i64 nb) := by (go_simp; done)
  have nq2 : (((w2.setCell ⟨P, 0, none⟩ (.int .i64 ta)).setCell ⟨P, 1, none⟩ (.int .i64 na)).setCell ⟨P, 2, none⟩ (.string xa)).cell? ⟨Q, 2, none⟩ = some (.string sb) := by (go_simp; done)
  have nf0 : ∀ k, (((w2.setCell ⟨P, 0, none⟩ (.int .i64 ta)).setCell ⟨P, 1, none⟩ (.int .i64 na)).setCell ⟨P, 2, none⟩ (.string xa)).frozen? ⟨P, k, none⟩ = false := fun k => by simp [f0]
  have ng0 : ∀ k, (((w2.setCell ⟨P, 0, none⟩ (.int .i64 ta)).setCell ⟨P, 1, none⟩ (.int .i64 na)).setCell ⟨P, 2, none⟩ (.string xa)).frozen? ⟨Q, k, none⟩ = false := fun k => by simp [g0]
  have nhz : Q < (((w2.setCell ⟨P, 0, none⟩ (.int .i64 ta)).setCell ⟨P, 1, none⟩ (.int .i64 na)).setCell ⟨P, 2, none⟩ (.string xa)).heap.size := by simpa using hz
  have nB : Below w.heap.size w (((w2.setCell ⟨P, 0, none⟩ (.int .i64 ta)).setCell ⟨P, 1, none⟩ (.int .i64 na)).setCell ⟨P, 2, none⟩ (.string xa)) := ((B.setCell (p := ⟨P, 0, none⟩) hwP _).setCell (p := ⟨P, 1, none⟩) hwP _).setCell (p := ⟨P, 2, none⟩) hwP _
  refine (SB'.out _).mono ?_
  rintro e w3 ⟨rfl, hb⟩
  replace p0 := keep_cell hb (Nat.lt_trans hPQ nhz) np0
  replace p1 := keep_cell hb (Nat.lt_trans hPQ nhz) np1
  replace p2 := keep_cell hb (Nat.lt_trans hPQ nhz) np2
  replace q0 := keep_cell hb nhz nq0
  replace q1 := keep_cell hb nhz nq1
  replace q2 := keep_cell hb nhz nq2
  replace f0 := fun k => ((bcell hb).2 P k (Nat.lt_trans hPQ nhz)).trans (nf0 k)
  replace g0 := fun k => ((bcell hb).2 Q k nhz).trans (ng0 k)
  replace B := nB.trans (hb.mono nB.size)
  replace hz := Nat.lt_of_lt_of_le nhz hb.size
  clear hb nB nhz nf0 ng0 np0 np1 np2 nq0 nq1 nq2
  go_wp2_with fail
  have np0 : (((w3.setCell ⟨Q, 0, none⟩ (.int .i64 tb)).setCell ⟨Q, 1, none⟩ (.int .i64 nb)).setCell ⟨Q, 2, none⟩ (.string xb)).cell? ⟨P, 0, none⟩ = some (.int .i64 ta) := by (go_simp; done)
  have np1 : (((w3.setCell ⟨Q, 0, none⟩ (.int .i64 tb)).setCell ⟨Q, 1, none⟩ (.int .i64 nb)).setCell ⟨Q, 2, none⟩ (.string xb)).cell? ⟨P, 1, none⟩ = some (.int .i64 na) := by (go_simp; done)
  have np2 : (((w3.setCell ⟨Q, 0, none⟩ (.int .i64 tb)).setCell ⟨Q, 1, none⟩ (.int .i64 nb)).setCell ⟨Q, 2, none⟩ (.string xb)).cell? ⟨P, 2, none⟩ = some (.string xa) := by (go_simp; done)
  have nq0 : (((w3.setCell ⟨Q, 0, none⟩ (.int .i64 tb)).setCell ⟨Q, 1, none⟩ (.int .i64 nb)).setCell ⟨Q, 2, none⟩ (.string xb)).cell? ⟨Q, 0, none⟩ = some (.int .i64 tb) := by (go_simp; done)
  have nq1 : (((w3.setCell ⟨Q, 0, none⟩ (.int .i64 tb)).setCell ⟨Q, 1, none⟩ (.int .i64 nb)).setCell ⟨Q, 2, none⟩ (.string xb)).cell? ⟨Q, 1, none⟩ = some (.int .i64 nb) := by (go_simp; done)
  have nq2 : (((w3.setCell ⟨Q, 0, none⟩ (.int .i64 tb)).setCell ⟨Q, 1, none⟩ (.int .i64 nb)).setCell ⟨Q, 2, none⟩ (.string xb)).cell? ⟨Q, 2, none⟩ = some (.string xb) := by (go_simp; done)
  have nf0 : ∀ k, (((w3.setCell ⟨Q, 0, none⟩ (.int .i64 tb)).setCell ⟨Q, 1, none⟩ (.int .i64 nb)).setCell ⟨Q, 2, none⟩ (.string xb)).frozen? ⟨P, k, none⟩ = false := fun k => by simp [f0]
  have ng0 : ∀ k, (((w3.setCell ⟨Q, 0, none⟩ (.int .i64 tb)).setCell ⟨Q, 1, none⟩ (.int .i64 nb)).setCell ⟨Q, 2, none⟩ (.string xb)).frozen? ⟨Q, k, none⟩ = false := fun k => by simp [g0]
  have nhz : Q < (((w3.setCell ⟨Q, 0, none⟩ (.int .i64 tb)).setCell ⟨Q, 1, none⟩ (.int .i64 nb)).setCell ⟨Q, 2, none⟩ (.string xb)).heap.size := by simpa using hz
  have nB : Below w.heap.size w (((w3.setCell ⟨Q, 0, none⟩ (.int .i64 tb)).setCell ⟨Q, 1, none⟩ (.int .i64 nb)).setCell ⟨Q, 2, none⟩ (.string xb)) := ((B.setCell (p := ⟨Q, 0, none⟩) hwQ _).setCell (p := ⟨Q, 1, none⟩) hwQ _).setCell (p := ⟨Q, 2, none⟩) hwQ _
  refine (text_any _ _).mono ?_
  rintro e w4 ⟨rfl, hb⟩
  have d10 := keep_cell hb (Nat.lt_trans hPQ nhz) np0
  have d11 := keep_cell hb (Nat.lt_trans hPQ nhz) np1
  have d12 := keep_cell hb (Nat.lt_trans hPQ nhz) np2
  have d20 := keep_cell hb nhz nq0
  have d21 := keep_cell hb nhz nq1
  have d22 := keep_cell hb nhz nq2
  replace B := nB.trans (hb.mono nB.size)
  have y2 := Nat.lt_of_lt_of_le nhz hb.size
  have y1 : P < w4.heap.size := Nat.lt_trans hPQ y2
  clear hb nB nhz nf0 ng0 np0 np1 np2 nq0 nq1 nq2 p0 p1 p2 q0 q1 q2 f0 g0 hz
  go_wp2_with fail
  refine (text_any _ _).mono ?_
  rintro e x11 ⟨rfl, hb⟩
  replace d10 := up_cell hb y1 d10
  replace d11 := up_cell hb y1 d11
  replace d12 := up_cell hb y1 d12
  replace y1 := up_size hb (Nat.le_of_lt y1)
  replace d20 := up_cell hb y2 d20
  replace d21 := up_cell hb y2 d21
  replace d22 := up_cell hb y2 d22
  replace y2 := up_size hb (Nat.le_of_lt y2)
  obtain ⟨d30, d31, d32⟩ := new_cell hb
  have y3 : w4.heap.size < x11.heap.size := up_size hb (Nat.le_refl _)
  replace B := up_below hb B
  clear hb
  go_wp2_with fail
  refine (bin_long xa xb hla hlb hl _).mono ?_
  rintro e x12 ⟨rfl, hb⟩
  replace d10 := up_cell hb y1 d10
  replace d11 := up_cell hb y1 d11
  replace d12 := up_cell hb y1 d12
  replace y1 := up_size hb (Nat.le_of_lt y1)
  replace d20 := up_cell hb y2 d20
  replace d21 := up_cell hb y2 d21
  replace d22 := up_cell hb y2 d22
  replace y2 := up_size hb (Nat.le_of_lt y2)
  replace d30 := up_cell hb y3 d30
  replace d31 := up_cell hb y3 d31
  replace d32 := up_cell hb y3 d32
  replace y3 := up_size hb (Nat.le_of_lt y3)
  obtain ⟨d40, d41, d42⟩ := new_cell hb
  have y4 : x11.heap.size < x12.heap.size := up_size hb (Nat.le_refl _)
  replace B := up_below hb B
  clear hb
  have hI : ¬ (xa.size : Int) + (xb.size : Int) ≤ 40 := by omega
  have hI1 : (xa.size : Int) ≤ 60 := by omega
  have hI2 : (xb.size : Int) ≤ 60 := by omega
  have hI3 : decide ((xa.size : Int) + (xb.size : Int) ≤ 40) = false := by simpa using hI
  go_wp2_with fail
  refine (MA'.out _).mono ?_
  rintro e x13 ⟨rfl, hb⟩
  replace d10 := up_cell hb y1 d10
  replace d11 := up_cell hb y1 d11
  replace d12 := up_cell hb y1 d12
  replace y1 := up_size hb (Nat.le_of_lt y1)
  replace d20 := up_cell hb y2 d20
  replace d21 := up_cell hb y2 d21
  replace d22 := up_cell hb y2 d22
  replace y2 := up_size hb (Nat.le_of_lt y2)
  replace d30 := up_cell hb y3 d30
  replace d31 := up_cell hb y3 d31
  replace d32 := up_cell hb y3 d32
  replace y3 := up_size hb (Nat.le_of_lt y3)
  replace d40 := up_cell hb y4 d40
  replace d41 := up_cell hb y4 d41
  replace d42 := up_cell hb y4 d42
  replace y4 := up_size hb (Nat.le_of_lt y4)
  obtain ⟨d50, d51, d52⟩ := new_cell hb
  have y5 : x12.heap.size < x13.heap.size := up_size hb (Nat.le_refl _)
  replace B := up_below hb B
  clear hb
  clear hI hI3
  go_wp2_with fail
  refine (MB'.out _).mono ?_
  rintro e x14 ⟨rfl, hb⟩
  replace d10 := keep_cell hb y1 d10
  replace d11 := keep_cell hb y1 d11
  replace d12 := keep_cell hb y1 d12
  replace y1 := Nat.lt_of_lt_of_le y1 hb.size
  replace d20 := keep_cell hb y2 d20
  replace d21 := keep_cell hb y2 d21
  replace d22 := keep_cell hb y2 d22
  replace y2 := Nat.lt_of_lt_of_le y2 hb.size
  replace d30 := keep_cell hb y3 d30
  replace d31 := keep_cell hb y3 d31
  replace d32 := keep_cell hb y3 d32
  replace y3 := Nat.lt_of_lt_of_le y3 hb.size
  replace d40 := keep_cell hb y4 d40
  replace d41 := keep_cell hb y4 d41
  replace d42 := keep_cell hb y4 d42
  replace y4 := Nat.lt_of_lt_of_le y4 hb.size
  replace d50 := keep_cell hb y5 d50
  replace d51 := keep_cell hb y5 d51
  replace d52 := keep_cell hb y5 d52
  replace y5 := Nat.lt_of_lt_of_le y5 hb.size
  replace B := keep_below B hb
  clear hb
  go_wp2
  go_ret
  exact ⟨rfl, B⟩

set_option maxRecDepth 100000 in
set_option maxHeartbeats 8000000 in
theorem txt_types_fits (ta na tb nb : Int) (sa sb xa xb : ByteArray) (hla : xa.size ≤ 60) (hlb : xb.size ≤ 60) (hl : xa.size + xb.size ≤ 40)
    (ht : ¬ ta = tb)
    (SA : ∀ w, Calls Tryd.prog 11 #[.agg #[.int .i64 ta, .int .i64 na, .string sa]] w fun e w' => e = .returned (.agg #[.int .i64 ta, .int .i64 na, .string xa]) ∧ Below w.heap.size w w')
    (SB : ∀ w, Calls Tryd.prog 11 #[.agg #[.int .i64 tb, .int .i64 nb, .string sb]] w fun e w' => e = .returned (.agg #[.int .i64 tb, .int .i64 nb, .string xb]) ∧ Below w.heap.size w w')
    (MA : ∀ w, Calls Tryd.prog 25 #[.agg #[.int .i64 ta, .int .i64 na, .string xa]] w fun e w' => e = .returned (.bool true) ∧ Below w.heap.size w w')
    (MB : ∀ w, Calls Tryd.prog 25 #[.agg #[.int .i64 tb, .int .i64 nb, .string xb]] w fun e w' => e = .returned (.bool true) ∧ Below w.heap.size w w')
    (w : World) (hT : TabW w) :
    Calls Tryd.prog 6 #[.agg #[.int .i64 ta, .int .i64 na, .string sa], .agg #[.int .i64 tb, .int .i64 nb, .string sb]] w fun e w' => e = .returned (.bool true) ∧ Below w.heap.size w w' := by
  have SA' := Lib.hid SA
  have SB' := Lib.hid SB
  have MA' := Lib.hid MA
  have MB' := Lib.hid MB
  have HT := Lib.hid hT
  clear hT SA SB MA MB
  have ht' : (ta == tb) = false := by simpa using ht
  clear ht
  go_enter Tryd.func6, Tryd.ntmps6
  go_wp2_with fail
  refine (shown_any _).mono ?_
  rintro e w1 ⟨rfl, hb1⟩
  have p0 : w1.cell? ⟨w.heap.size, 0, none⟩ = some (.int .i64 ta) := (hb1.cell (p := ⟨w.heap.size, 0, none⟩) (by simp; omega)).trans (by simp)
  have p1 : w1.cell? ⟨w.heap.size, 1, none⟩ = some (.int .i64 na) := (hb1.cell (p := ⟨w.heap.size, 1, none⟩) (by simp; omega)).trans (by simp)
  have p2 : w1.cell? ⟨w.heap.size, 2, none⟩ = some (.string sa) := (hb1.cell (p := ⟨w.heap.size, 2, none⟩) (by simp; omega)).trans (by simp)
  have q0 : w1.cell? ⟨w.heap.size + 1, 0, none⟩ = some (.int .i64 tb) := (hb1.cell (p := ⟨w.heap.size + 1, 0, none⟩) (by simp)).trans (by simp)
  have q1 : w1.cell? ⟨w.heap.size + 1, 1, none⟩ = some (.int .i64 nb) := (hb1.cell (p := ⟨w.heap.size + 1, 1, none⟩) (by simp)).trans (by simp)
  have q2 : w1.cell? ⟨w.heap.size + 1, 2, none⟩ = some (.string sb) := (hb1.cell (p := ⟨w.heap.size + 1, 2, none⟩) (by simp)).trans (by simp)
  have f0 : ∀ k, w1.frozen? ⟨w.heap.size, k, none⟩ = false := fun k => (hb1.frozen (p := ⟨w.heap.size, k, none⟩) (by simp; omega)).trans (by simp)
  have g0 : ∀ k, w1.frozen? ⟨w.heap.size + 1, k, none⟩ = false := fun k => (hb1.frozen (p := ⟨w.heap.size + 1, k, none⟩) (by simp)).trans (by simp)
  have hz : w.heap.size + 1 < w1.heap.size := by have := hb1.size; simp at this; omega
  have B : Below w.heap.size w w1 := (((Below.refl _ _).alloc (Nat.le_refl _) _).alloc (by simp) _).trans (hb1.mono (by simp; omega))
  obtain ⟨P, hP⟩ : ∃ P : Nat, P = w.heap.size := ⟨_, rfl⟩
  obtain ⟨Q, hQ⟩ : ∃ Q : Nat, Q = w.heap.size + 1 := ⟨_, rfl⟩
  clear hb1
  rw [← hQ] at q0 q1 q2 g0 hz
  rw [← hP] at p0 p1 p2 f0
  have hPQ : P < Q := by omega
  have hwP : w.heap.size ≤ P := by omega
  have hwQ : w.heap.size ≤ Q := by omega
  rw [← hQ, ← hP]
  clear hP hQ
  go_wp2_with fail
  refine (SA'.out _).mono ?_
  rintro e w2 ⟨rfl, hb⟩
  replace p0 := keep_cell hb (by omega) p0
  replace p1 := keep_cell hb (by omega) p1
  replace p2 := keep_cell hb (by omega) p2
  replace q0 := keep_cell hb hz q0
  replace q1 := keep_cell hb hz q1
  replace q2 := keep_cell hb hz q2
  replace f0 := fun k => ((bcell hb).2 P k (by omega)).trans (f0 k)
  replace g0 := fun k => ((bcell hb).2 Q k hz).trans (g0 k)
  replace hz := Nat.lt_of_lt_of_le hz hb.size
  replace B := B.trans (hb.mono B.size)
  clear hb
  have hPQ1 : ¬ P = Q := by omega
  have hPQ2 : ¬ Q = P := by omega
  go_wp2_with fail
  have np0 : (((w2.setCell ⟨P, 0, none⟩ (.int .i64 ta)).setCell ⟨P, 1, none⟩ (.int .i64 na)).setCell ⟨P, 2, none⟩ (.string xa)).cell? ⟨P, 0, none⟩ = some (.int .i64 ta) := by (go_simp; done)
  have np1 : (((w2.setCell ⟨P, 0, none⟩ (.int .i64 ta)).setCell ⟨P, 1, none⟩ (.int .i64 na)).setCell ⟨P, 2, none⟩ (.string xa)).cell? ⟨P, 1, none⟩ = some (.int .i64 na) := by (go_simp; done)
  have np2 : (((w2.setCell ⟨P, 0, none⟩ (.int .i64 ta)).setCell ⟨P, 1, none⟩ (.int .i64 na)).setCell ⟨P, 2, none⟩ (.string xa)).cell? ⟨P, 2, none⟩ = some (.string xa) := by (go_simp; done)
  have nq0 : (((w2.setCell ⟨P, 0, none⟩ (.int .i64 ta)).setCell ⟨P, 1, none⟩ (.int .i64 na)).setCell ⟨P, 2, none⟩ (.string xa)).cell? ⟨Q, 0, none⟩ = some (.int .i64 tb) := by (go_simp; done)
  have nq1 : (((w2.setCell ⟨P, 0, none⟩ (.int .i64 ta)).setCell ⟨P, 1, none⟩ (.int .i64 na)).setCell ⟨P, 2, none⟩ (.string xa)).cell? ⟨Q, 1, none⟩ = some (.int .i64 nb) := by (go_simp; done)
  have nq2 : (((w2.setCell ⟨P, 0, none⟩ (.int .i64 ta)).setCell ⟨P, 1, none⟩ (.int .i64 na)).setCell ⟨P, 2, none⟩ (.string xa)).cell? ⟨Q, 2, none⟩ = some (.string sb) := by (go_simp; done)
  have nf0 : ∀ k, (((w2.setCell ⟨P, 0, none⟩ (.int .i64 ta)).setCell ⟨P, 1, none⟩ (.int .i64 na)).setCell ⟨P, 2, none⟩ (.string xa)).frozen? ⟨P, k, none⟩ = false := fun k => by simp [f0]
  have ng0 : ∀ k, (((w2.setCell ⟨P, 0, none⟩ (.int .i64 ta)).setCell ⟨P, 1, none⟩ (.int .i64 na)).setCell ⟨P, 2, none⟩ (.string xa)).frozen? ⟨Q, k, none⟩ = false := fun k => by simp [g0]
  have nhz : Q < (((w2.setCell ⟨P, 0, none⟩ (.int .i64 ta)).setCell ⟨P, 1, none⟩ (.int .i64 na)).setCell ⟨P, 2, none⟩ (.string xa)).heap.size := by simpa using hz
  have nB : Below w.heap.size w (((w2.setCell ⟨P, 0, none⟩ (.int .i64 ta)).setCell ⟨P, 1, none⟩ (.int .i64 na)).setCell ⟨P, 2, none⟩ (.string xa)) := ((B.setCell (p := ⟨P, 0, none⟩) hwP _).setCell (p := ⟨P, 1, none⟩) hwP _).setCell (p := ⟨P, 2, none⟩) hwP _
  refine (SB'.out _).mono ?_
  rintro e w3 ⟨rfl, hb⟩
  replace p0 := keep_cell hb (Nat.lt_trans hPQ nhz) np0
  replace p1 := keep_cell hb (Nat.lt_trans hPQ nhz) np1
  replace p2 := keep_cell hb (Nat.lt_trans hPQ nhz) np2
  replace q0 := keep_cell hb nhz nq0
  replace q1 := keep_cell hb nhz nq1
  replace q2 := keep_cell hb nhz nq2
  replace f0 := fun k => ((bcell hb).2 P k (Nat.lt_trans hPQ nhz)).trans (nf0 k)
  replace g0 := fun k => ((bcell hb).2 Q k nhz).trans (ng0 k)
  replace B := nB.trans (hb.mono nB.size)
  replace hz := Nat.lt_of_lt_of_le nhz hb.size
  clear hb nB nhz nf0 ng0 np0 np1 np2 nq0 nq1 nq2
  go_wp2_with fail
  have np0 : (((w3.setCell ⟨Q, 0, none⟩ (.int .i64 tb)).setCell ⟨Q, 1, none⟩ (.int .i64 nb)).setCell ⟨Q, 2, none⟩ (.string xb)).cell? ⟨P, 0, none⟩ = some (.int .i64 ta) := by (go_simp; done)
  have np1 : (((w3.setCell ⟨Q, 0, none⟩ (.int .i64 tb)).setCell ⟨Q, 1, none⟩ (.int .i64 nb)).setCell ⟨Q, 2, none⟩ (.string xb)).cell? ⟨P, 1, none⟩ = some (.int .i64 na) := by (go_simp; done)
  have np2 : (((w3.setCell ⟨Q, 0, none⟩ (.int .i64 tb)).setCell ⟨Q, 1, none⟩ (.int .i64 nb)).setCell ⟨Q, 2, none⟩ (.string xb)).cell? ⟨P, 2, none⟩ = some (.string xa) := by (go_simp; done)
  have nq0 : (((w3.setCell ⟨Q, 0, none⟩ (.int .i64 tb)).setCell ⟨Q, 1, none⟩ (.int .i64 nb)).setCell ⟨Q, 2, none⟩ (.string xb)).cell? ⟨Q, 0, none⟩ = some (.int .i64 tb) := by (go_simp; done)
  have nq1 : (((w3.setCell ⟨Q, 0, none⟩ (.int .i64 tb)).setCell ⟨Q, 1, none⟩ (.int .i64 nb)).setCell ⟨Q, 2, none⟩ (.string xb)).cell? ⟨Q, 1, none⟩ = some (.int .i64 nb) := by (go_simp; done)
  have nq2 : (((w3.setCell ⟨Q, 0, none⟩ (.int .i64 tb)).setCell ⟨Q, 1, none⟩ (.int .i64 nb)).setCell ⟨Q, 2, none⟩ (.string xb)).cell? ⟨Q, 2, none⟩ = some (.string xb) := by (go_simp; done)
  have nf0 : ∀ k, (((w3.setCell ⟨Q, 0, none⟩ (.int .i64 tb)).setCell ⟨Q, 1, none⟩ (.int .i64 nb)).setCell ⟨Q, 2, none⟩ (.string xb)).frozen? ⟨P, k, none⟩ = false := fun k => by simp [f0]
  have ng0 : ∀ k, (((w3.setCell ⟨Q, 0, none⟩ (.int .i64 tb)).setCell ⟨Q, 1, none⟩ (.int .i64 nb)).setCell ⟨Q, 2, none⟩ (.string xb)).frozen? ⟨Q, k, none⟩ = false := fun k => by simp [g0]
  have nhz : Q < (((w3.setCell ⟨Q, 0, none⟩ (.int .i64 tb)).setCell ⟨Q, 1, none⟩ (.int .i64 nb)).setCell ⟨Q, 2, none⟩ (.string xb)).heap.size := by simpa using hz
  have nB : Below w.heap.size w (((w3.setCell ⟨Q, 0, none⟩ (.int .i64 tb)).setCell ⟨Q, 1, none⟩ (.int .i64 nb)).setCell ⟨Q, 2, none⟩ (.string xb)) := ((B.setCell (p := ⟨Q, 0, none⟩) hwQ _).setCell (p := ⟨Q, 1, none⟩) hwQ _).setCell (p := ⟨Q, 2, none⟩) hwQ _
  refine (text_any _ _).mono ?_
  rintro e w4 ⟨rfl, hb⟩
  have d10 := keep_cell hb (Nat.lt_trans hPQ nhz) np0
  have d11 := keep_cell hb (Nat.lt_trans hPQ nhz) np1
  have d12 := keep_cell hb (Nat.lt_trans hPQ nhz) np2
  have d20 := keep_cell hb nhz nq0
  have d21 := keep_cell hb nhz nq1
  have d22 := keep_cell hb nhz nq2
  replace B := nB.trans (hb.mono nB.size)
  have y2 := Nat.lt_of_lt_of_le nhz hb.size
  have y1 : P < w4.heap.size := Nat.lt_trans hPQ y2
  clear hb nB nhz nf0 ng0 np0 np1 np2 nq0 nq1 nq2 p0 p1 p2 q0 q1 q2 f0 g0 hz
  go_wp2_with fail
  refine (text_any _ _).mono ?_
  rintro e x11 ⟨rfl, hb⟩
  replace d10 := up_cell hb y1 d10
  replace d11 := up_cell hb y1 d11
  replace d12 := up_cell hb y1 d12
  replace y1 := up_size hb (Nat.le_of_lt y1)
  replace d20 := up_cell hb y2 d20
  replace d21 := up_cell hb y2 d21
  replace d22 := up_cell hb y2 d22
  replace y2 := up_size hb (Nat.le_of_lt y2)
  obtain ⟨d30, d31, d32⟩ := new_cell hb
  have y3 : w4.heap.size < x11.heap.size := up_size hb (Nat.le_refl _)
  replace B := up_below hb B
  clear hb
  go_wp2_with fail
  refine (bin_plus xa xb hla hlb hl _).mono ?_
  rintro e x12 ⟨rfl, hb⟩
  replace d10 := up_cell hb y1 d10
  replace d11 := up_cell hb y1 d11
  replace d12 := up_cell hb y1 d12
  replace y1 := up_size hb (Nat.le_of_lt y1)
  replace d20 := up_cell hb y2 d20
  replace d21 := up_cell hb y2 d21
  replace d22 := up_cell hb y2 d22
  replace y2 := up_size hb (Nat.le_of_lt y2)
  replace d30 := up_cell hb y3 d30
  replace d31 := up_cell hb y3 d31
  replace d32 := up_cell hb y3 d32
  replace y3 := up_size hb (Nat.le_of_lt y3)
  obtain ⟨d40, d41, d42⟩ := new_cell hb
  have y4 : x11.heap.size < x12.heap.size := up_size hb (Nat.le_refl _)
  replace B := up_below hb B
  clear hb
  have hI : (xa.size : Int) + (xb.size : Int) ≤ 40 := by omega
  have hI1 : (xa.size : Int) ≤ 60 := by omega
  have hI2 : (xb.size : Int) ≤ 60 := by omega
  go_wp2_with fail
  refine (MA'.out _).mono ?_
  rintro e x13 ⟨rfl, hb⟩
  replace d10 := up_cell hb y1 d10
  replace d11 := up_cell hb y1 d11
  replace d12 := up_cell hb y1 d12
  replace y1 := up_size hb (Nat.le_of_lt y1)
  replace d20 := up_cell hb y2 d20
  replace d21 := up_cell hb y2 d21
  replace d22 := up_cell hb y2 d22
  replace y2 := up_size hb (Nat.le_of_lt y2)
  replace d30 := up_cell hb y3 d30
  replace d31 := up_cell hb y3 d31
  replace d32 := up_cell hb y3 d32
  replace y3 := up_size hb (Nat.le_of_lt y3)
  replace d40 := up_cell hb y4 d40
  replace d41 := up_cell hb y4 d41
  replace d42 := up_cell hb y4 d42
  replace y4 := up_size hb (Nat.le_of_lt y4)
  obtain ⟨d50, d51, d52⟩ := new_cell hb
  have y5 : x12.heap.size < x13.heap.size := up_size hb (Nat.le_refl _)
  replace B := up_below hb B
  clear hb
  clear hI
  go_wp2_with fail
  refine (MB'.out _).mono ?_
  rintro e x14 ⟨rfl, hb⟩
  replace d10 := keep_cell hb y1 d10
  replace d11 := keep_cell hb y1 d11
  replace d12 := keep_cell hb y1 d12
  replace y1 := Nat.lt_of_lt_of_le y1 hb.size
  replace d20 := keep_cell hb y2 d20
  replace d21 := keep_cell hb y2 d21
  replace d22 := keep_cell hb y2 d22
  replace y2 := Nat.lt_of_lt_of_le y2 hb.size
  replace d30 := keep_cell hb y3 d30
  replace d31 := keep_cell hb y3 d31
  replace d32 := keep_cell hb y3 d32
  replace y3 := Nat.lt_of_lt_of_le y3 hb.size
  replace d40 := keep_cell hb y4 d40
  replace d41 := keep_cell hb y4 d41
  replace d42 := keep_cell hb y4 d42
  replace y4 := Nat.lt_of_lt_of_le y4 hb.size
  replace d50 := keep_cell hb y5 d50
  replace d51 := keep_cell hb y5 d51
  replace d52 := keep_cell hb y5 d52
  replace y5 := Nat.lt_of_lt_of_le y5 hb.size
  replace B := keep_below B hb
  clear hb
  go_wp2
  go_ret
  exact ⟨rfl, B⟩

set_option maxRecDepth 100000 in
set_option maxHeartbeats 8000000 in
theorem txt_types_long (ta na tb nb : Int) (sa sb xa xb : ByteArray) (hla : xa.size ≤ 60) (hlb : xb.size ≤ 60) (hl : 40 < xa.size + xb.size)
    (ht : ¬ ta = tb)
    (SA : ∀ w, Calls Tryd.prog 11 #[.agg #[.int .i64 ta, .int .i64 na, .string sa]] w fun e w' => e = .returned (.agg #[.int .i64 ta, .int .i64 na, .string xa]) ∧ Below w.heap.size w w')
    (SB : ∀ w, Calls Tryd.prog 11 #[.agg #[.int .i64 tb, .int .i64 nb, .string sb]] w fun e w' => e = .returned (.agg #[.int .i64 tb, .int .i64 nb, .string xb]) ∧ Below w.heap.size w w')
    (MA : ∀ w, Calls Tryd.prog 25 #[.agg #[.int .i64 ta, .int .i64 na, .string xa]] w fun e w' => e = .returned (.bool true) ∧ Below w.heap.size w w')
    (MB : ∀ w, Calls Tryd.prog 25 #[.agg #[.int .i64 tb, .int .i64 nb, .string xb]] w fun e w' => e = .returned (.bool true) ∧ Below w.heap.size w w')
    (w : World) (hT : TabW w) :
    Calls Tryd.prog 6 #[.agg #[.int .i64 ta, .int .i64 na, .string sa], .agg #[.int .i64 tb, .int .i64 nb, .string sb]] w fun e w' => e = .returned (.bool true) ∧ Below w.heap.size w w' := by
  have SA' := Lib.hid SA
  have SB' := Lib.hid SB
  have MA' := Lib.hid MA
  have MB' := Lib.hid MB
  have HT := Lib.hid hT
  clear hT SA SB MA MB
  have ht' : (ta == tb) = false := by simpa using ht
  clear ht
  go_enter Tryd.func6, Tryd.ntmps6
  go_wp2_with fail
  refine (shown_any _).mono ?_
  rintro e w1 ⟨rfl, hb1⟩
  have p0 : w1.cell? ⟨w.heap.size, 0, none⟩ = some (.int .i64 ta) := (hb1.cell (p := ⟨w.heap.size, 0, none⟩) (by simp; omega)).trans (by simp)
  have p1 : w1.cell? ⟨w.heap.size, 1, none⟩ = some (.int .i64 na) := (hb1.cell (p := ⟨w.heap.size, 1, none⟩) (by simp; omega)).trans (by simp)
  have p2 : w1.cell? ⟨w.heap.size, 2, none⟩ = some (.string sa) := (hb1.cell (p := ⟨w.heap.size, 2, none⟩) (by simp; omega)).trans (by simp)
  have q0 : w1.cell? ⟨w.heap.size + 1, 0, none⟩ = some (.int .i64 tb) := (hb1.cell (p := ⟨w.heap.size + 1, 0, none⟩) (by simp)).trans (by simp)
  have q1 : w1.cell? ⟨w.heap.size + 1, 1, none⟩ = some (.int .i64 nb) := (hb1.cell (p := ⟨w.heap.size + 1, 1, none⟩) (by simp)).trans (by simp)
  have q2 : w1.cell? ⟨w.heap.size + 1, 2, none⟩ = some (.string sb) := (hb1.cell (p := ⟨w.heap.size + 1, 2, none⟩) (by simp)).trans (by simp)
  have f0 : ∀ k, w1.frozen? ⟨w.heap.size, k, none⟩ = false := fun k => (hb1.frozen (p := ⟨w.heap.size, k, none⟩) (by simp; omega)).trans (by simp)
  have g0 : ∀ k, w1.frozen? ⟨w.heap.size + 1, k, none⟩ = false := fun k => (hb1.frozen (p := ⟨w.heap.size + 1, k, none⟩) (by simp)).trans (by simp)
  have hz : w.heap.size + 1 < w1.heap.size := by have := hb1.size; simp at this; omega
  have B : Below w.heap.size w w1 := (((Below.refl _ _).alloc (Nat.le_refl _) _).alloc (by simp) _).trans (hb1.mono (by simp; omega))
  obtain ⟨P, hP⟩ : ∃ P : Nat, P = w.heap.size := ⟨_, rfl⟩
  obtain ⟨Q, hQ⟩ : ∃ Q : Nat, Q = w.heap.size + 1 := ⟨_, rfl⟩
  clear hb1
  rw [← hQ] at q0 q1 q2 g0 hz
  rw [← hP] at p0 p1 p2 f0
  have hPQ : P < Q := by omega
  have hwP : w.heap.size ≤ P := by omega
  have hwQ : w.heap.size ≤ Q := by omega
  rw [← hQ, ← hP]
  clear hP hQ
  go_wp2_with fail
  refine (SA'.out _).mono ?_
  rintro e w2 ⟨rfl, hb⟩
  replace p0 := keep_cell hb (by omega) p0
  replace p1 := keep_cell hb (by omega) p1
  replace p2 := keep_cell hb (by omega) p2
  replace q0 := keep_cell hb hz q0
  replace q1 := keep_cell hb hz q1
  replace q2 := keep_cell hb hz q2
  replace f0 := fun k => ((bcell hb).2 P k (by omega)).trans (f0 k)
  replace g0 := fun k => ((bcell hb).2 Q k hz).trans (g0 k)
  replace hz := Nat.lt_of_lt_of_le hz hb.size
  replace B := B.trans (hb.mono B.size)
  clear hb
  have hPQ1 : ¬ P = Q := by omega
  have hPQ2 : ¬ Q = P := by omega
  go_wp2_with fail
  have np0 : (((w2.setCell ⟨P, 0, none⟩ (.int .i64 ta)).setCell ⟨P, 1, none⟩ (.int .i64 na)).setCell ⟨P, 2, none⟩ (.string xa)).cell? ⟨P, 0, none⟩ = some (.int .i64 ta) := by (go_simp; done)
  have np1 : (((w2.setCell ⟨P, 0, none⟩ (.int .i64 ta)).setCell ⟨P, 1, none⟩ (.int .i64 na)).setCell ⟨P, 2, none⟩ (.string xa)).cell? ⟨P, 1, none⟩ = some (.int .i64 na) := by (go_simp; done)
  have np2 : (((w2.setCell ⟨P, 0, none⟩ (.int .i64 ta)).setCell ⟨P, 1, none⟩ (.int .i64 na)).setCell ⟨P, 2, none⟩ (.string xa)).cell? ⟨P, 2, none⟩ = some (.string xa) := by (go_simp; done)
  have nq0 : (((w2.setCell ⟨P, 0, none⟩ (.int .i64 ta)).setCell ⟨P, 1, none⟩ (.int .i64 na)).setCell ⟨P, 2, none⟩ (.string xa)).cell? ⟨Q, 0, none⟩ = some (.int .i64 tb) := by (go_simp; done)
  have nq1 : (((w2.setCell ⟨P, 0, none⟩ (.int .i64 ta)).setCell ⟨P, 1, none⟩ (.int .i64 na)).setCell ⟨P, 2, none⟩ (.string xa)).cell? ⟨Q, 1, none⟩ = some (.int .i64 nb) := by (go_simp; done)
  have nq2 : (((w2.setCell ⟨P, 0, none⟩ (.int .i64 ta)).setCell ⟨P, 1, none⟩ (.int .i64 na)).setCell ⟨P, 2, none⟩ (.string xa)).cell? ⟨Q, 2, none⟩ = some (.string sb) := by (go_simp; done)
  have nf0 : ∀ k, (((w2.setCell ⟨P, 0, none⟩ (.int .i64 ta)).setCell ⟨P, 1, none⟩ (.int .i64 na)).setCell ⟨P, 2, none⟩ (.string xa)).frozen? ⟨P, k, none⟩ = false := fun k => by simp [f0]
  have ng0 : ∀ k, (((w2.setCell ⟨P, 0, none⟩ (.int .i64 ta)).setCell ⟨P, 1, none⟩ (.int .i64 na)).setCell ⟨P, 2, none⟩ (.string xa)).frozen? ⟨Q, k, none⟩ = false := fun k => by simp [g0]
  have nhz : Q < (((w2.setCell ⟨P, 0, none⟩ (.int .i64 ta)).setCell ⟨P, 1, none⟩ (.int .i64 na)).setCell ⟨P, 2, none⟩ (.string xa)).heap.size := by simpa using hz
  have nB : Below w.heap.size w (((w2.setCell ⟨P, 0, none⟩ (.int .i64 ta)).setCell ⟨P, 1, none⟩ (.int .i64 na)).setCell ⟨P, 2, none⟩ (.string xa)) := ((B.setCell (p := ⟨P, 0, none⟩) hwP _).setCell (p := ⟨P, 1, none⟩) hwP _).setCell (p := ⟨P, 2, none⟩) hwP _
  refine (SB'.out _).mono ?_
  rintro e w3 ⟨rfl, hb⟩
  replace p0 := keep_cell hb (Nat.lt_trans hPQ nhz) np0
  replace p1 := keep_cell hb (Nat.lt_trans hPQ nhz) np1
  replace p2 := keep_cell hb (Nat.lt_trans hPQ nhz) np2
  replace q0 := keep_cell hb nhz nq0
  replace q1 := keep_cell hb nhz nq1
  replace q2 := keep_cell hb nhz nq2
  replace f0 := fun k => ((bcell hb).2 P k (Nat.lt_trans hPQ nhz)).trans (nf0 k)
  replace g0 := fun k => ((bcell hb).2 Q k nhz).trans (ng0 k)
  replace B := nB.trans (hb.mono nB.size)
  replace hz := Nat.lt_of_lt_of_le nhz hb.size
  clear hb nB nhz nf0 ng0 np0 np1 np2 nq0 nq1 nq2
  go_wp2_with fail
  have np0 : (((w3.setCell ⟨Q, 0, none⟩ (.int .i64 tb)).setCell ⟨Q, 1, none⟩ (.int .i64 nb)).setCell ⟨Q, 2, none⟩ (.string xb)).cell? ⟨P, 0, none⟩ = some (.int .i64 ta) := by (go_simp; done)
  have np1 : (((w3.setCell ⟨Q, 0, none⟩ (.int .i64 tb)).setCell ⟨Q, 1, none⟩ (.int .i64 nb)).setCell ⟨Q, 2, none⟩ (.string xb)).cell? ⟨P, 1, none⟩ = some (.int .i64 na) := by (go_simp; done)
  have np2 : (((w3.setCell ⟨Q, 0, none⟩ (.int .i64 tb)).setCell ⟨Q, 1, none⟩ (.int .i64 nb)).setCell ⟨Q, 2, none⟩ (.string xb)).cell? ⟨P, 2, none⟩ = some (.string xa) := by (go_simp; done)
  have nq0 : (((w3.setCell ⟨Q, 0, none⟩ (.int .i64 tb)).setCell ⟨Q, 1, none⟩ (.int .i64 nb)).setCell ⟨Q, 2, none⟩ (.string xb)).cell? ⟨Q, 0, none⟩ = some (.int .i64 tb) := by (go_simp; done)
  have nq1 : (((w3.setCell ⟨Q, 0, none⟩ (.int .i64 tb)).setCell ⟨Q, 1, none⟩ (.int .i64 nb)).setCell ⟨Q, 2, none⟩ (.string xb)).cell? ⟨Q, 1, none⟩ = some (.int .i64 nb) := by (go_simp; done)
  have nq2 : (((w3.setCell ⟨Q, 0, none⟩ (.int .i64 tb)).setCell ⟨Q, 1, none⟩ (.int .i64 nb)).setCell ⟨Q, 2, none⟩ (.string xb)).cell? ⟨Q, 2, none⟩ = some (.string xb) := by (go_simp; done)
  have nf0 : ∀ k, (((w3.setCell ⟨Q, 0, none⟩ (.int .i64 tb)).setCell ⟨Q, 1, none⟩ (.int .i64 nb)).setCell ⟨Q, 2, none⟩ (.string xb)).frozen? ⟨P, k, none⟩ = false := fun k => by simp [f0]
  have ng0 : ∀ k, (((w3.setCell ⟨Q, 0, none⟩ (.int .i64 tb)).setCell ⟨Q, 1, none⟩ (.int .i64 nb)).setCell ⟨Q, 2, none⟩ (.string xb)).frozen? ⟨Q, k, none⟩ = false := fun k => by simp [g0]
  have nhz : Q < (((w3.setCell ⟨Q, 0, none⟩ (.int .i64 tb)).setCell ⟨Q, 1, none⟩ (.int .i64 nb)).setCell ⟨Q, 2, none⟩ (.string xb)).heap.size := by simpa using hz
  have nB : Below w.heap.size w (((w3.setCell ⟨Q, 0, none⟩ (.int .i64 tb)).setCell ⟨Q, 1, none⟩ (.int .i64 nb)).setCell ⟨Q, 2, none⟩ (.string xb)) := ((B.setCell (p := ⟨Q, 0, none⟩) hwQ _).setCell (p := ⟨Q, 1, none⟩) hwQ _).setCell (p := ⟨Q, 2, none⟩) hwQ _
  refine (text_any _ _).mono ?_
  rintro e w4 ⟨rfl, hb⟩
  have d10 := keep_cell hb (Nat.lt_trans hPQ nhz) np0
  have d11 := keep_cell hb (Nat.lt_trans hPQ nhz) np1
  have d12 := keep_cell hb (Nat.lt_trans hPQ nhz) np2
  have d20 := keep_cell hb nhz nq0
  have d21 := keep_cell hb nhz nq1
  have d22 := keep_cell hb nhz nq2
  replace B := nB.trans (hb.mono nB.size)
  have y2 := Nat.lt_of_lt_of_le nhz hb.size
  have y1 : P < w4.heap.size := Nat.lt_trans hPQ y2
  clear hb nB nhz nf0 ng0 np0 np1 np2 nq0 nq1 nq2 p0 p1 p2 q0 q1 q2 f0 g0 hz
  go_wp2_with fail
  refine (text_any _ _).mono ?_
  rintro e x11 ⟨rfl, hb⟩
  replace d10 := up_cell hb y1 d10
  replace d11 := up_cell hb y1 d11
  replace d12 := up_cell hb y1 d12
  replace y1 := up_size hb (Nat.le_of_lt y1)
  replace d20 := up_cell hb y2 d20
  replace d21 := up_cell hb y2 d21
  replace d22 := up_cell hb y2 d22
  replace y2 := up_size hb (Nat.le_of_lt y2)
  obtain ⟨d30, d31, d32⟩ := new_cell hb
  have y3 : w4.heap.size < x11.heap.size := up_size hb (Nat.le_refl _)
  replace B := up_below hb B
  clear hb
  go_wp2_with fail
  refine (bin_long xa xb hla hlb hl _).mono ?_
  rintro e x12 ⟨rfl, hb⟩
  replace d10 := up_cell hb y1 d10
  replace d11 := up_cell hb y1 d11
  replace d12 := up_cell hb y1 d12
  replace y1 := up_size hb (Nat.le_of_lt y1)
  replace d20 := up_cell hb y2 d20
  replace d21 := up_cell hb y2 d21
  replace d22 := up_cell hb y2 d22
  replace y2 := up_size hb (Nat.le_of_lt y2)
  replace d30 := up_cell hb y3 d30
  replace d31 := up_cell hb y3 d31
  replace d32 := up_cell hb y3 d32
  replace y3 := up_size hb (Nat.le_of_lt y3)
  obtain ⟨d40, d41, d42⟩ := new_cell hb
  have y4 : x11.heap.size < x12.heap.size := up_size hb (Nat.le_refl _)
  replace B := up_below hb B
  clear hb
  have hI : ¬ (xa.size : Int) + (xb.size : Int) ≤ 40 := by omega
  have hI1 : (xa.size : Int) ≤ 60 := by omega
  have hI2 : (xb.size : Int) ≤ 60 := by omega
  have hI3 : decide ((xa.size : Int) + (xb.size : Int) ≤ 40) = false := by simpa using hI
  go_wp2_with fail
  refine (MA'.out _).mono ?_
  rintro e x13 ⟨rfl, hb⟩
  replace d10 := up_cell hb y1 d10
  replace d11 := up_cell hb y1 d11
  replace d12 := up_cell hb y1 d12
  replace y1 := up_size hb (Nat.le_of_lt y1)
  replace d20 := up_cell hb y2 d20
  replace d21 := up_cell hb y2 d21
  replace d22 := up_cell hb y2 d22
  replace y2 := up_size hb (Nat.le_of_lt y2)
  replace d30 := up_cell hb y3 d30
  replace d31 := up_cell hb y3 d31
  replace d32 := up_cell hb y3 d32
  replace y3 := up_size hb (Nat.le_of_lt y3)
  replace d40 := up_cell hb y4 d40
  replace d41 := up_cell hb y4 d41
  replace d42 := up_cell hb y4 d42
  replace y4 := up_size hb (Nat.le_of_lt y4)
  obtain ⟨d50, d51, d52⟩ := new_cell hb
  have y5 : x12.heap.size < x13.heap.size := up_size hb (Nat.le_refl _)
  replace B := up_below hb B
  clear hb
  clear hI hI3
  go_wp2_with fail
  refine (MB'.out _).mono ?_
  rintro e x14 ⟨rfl, hb⟩
  replace d10 := keep_cell hb y1 d10
  replace d11 := keep_cell hb y1 d11
  replace d12 := keep_cell hb y1 d12
  replace y1 := Nat.lt_of_lt_of_le y1 hb.size
  replace d20 := keep_cell hb y2 d20
  replace d21 := keep_cell hb y2 d21
  replace d22 := keep_cell hb y2 d22
  replace y2 := Nat.lt_of_lt_of_le y2 hb.size
  replace d30 := keep_cell hb y3 d30
  replace d31 := keep_cell hb y3 d31
  replace d32 := keep_cell hb y3 d32
  replace y3 := Nat.lt_of_lt_of_le y3 hb.size
  replace d40 := keep_cell hb y4 d40
  replace d41 := keep_cell hb y4 d41
  replace d42 := keep_cell hb y4 d42
  replace y4 := Nat.lt_of_lt_of_le y4 hb.size
  replace d50 := keep_cell hb y5 d50
  replace d51 := keep_cell hb y5 d51
  replace d52 := keep_cell hb y5 d52
  replace y5 := Nat.lt_of_lt_of_le y5 hb.size
  replace B := keep_below B hb
  clear hb
  go_wp2
  go_ret
  exact ⟨rfl, B⟩

end Go.Proofs.YtpighdioomjnmaaDoor.textsof
