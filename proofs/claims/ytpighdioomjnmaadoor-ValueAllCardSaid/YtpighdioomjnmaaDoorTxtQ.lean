/-
  Layer 5: walks of ValueTexts, of two that are the same. Written by an AI agent.
-/
import Derived.Test.YtpighdioomjnmaaDoorTxtA
import Derived.Test.YtpighdioomjnmaaDoorLogA
import Derived.IntWalk
import Derived.Deep.DeepCutAuto
import Derived.Deep.RegionWith
import Derived.Deep.RegionHeld3
namespace Go.Proofs.YtpighdioomjnmaaDoor.textsof
open Go.RowKit Go.Proofs.YtpighdioomjnmaaDoor.logic
set_option linter.unusedVariables false

set_option maxRecDepth 100000 in
set_option maxHeartbeats 8000000 in
theorem txt_eq_fits_list (t n : Int) (sa sb xa : ByteArray) (hla : xa.size ≤ 60) (hl : xa.size + xa.size ≤ 40)
    (h4 : t = 4)
    (SA : ∀ w, Calls Tryd.prog 11 #[.agg #[.int .i64 t, .int .i64 n, .string sa]] w fun e w' => e = .returned (.agg #[.int .i64 t, .int .i64 n, .string xa]) ∧ Below w.heap.size w w')
    (SB : ∀ w, Calls Tryd.prog 11 #[.agg #[.int .i64 t, .int .i64 n, .string sb]] w fun e w' => e = .returned (.agg #[.int .i64 t, .int .i64 n, .string xa]) ∧ Below w.heap.size w w')
    (MA : ∀ w, Calls Tryd.prog 25 #[.agg #[.int .i64 t, .int .i64 n, .string xa]] w fun e w' => e = .returned (.bool true) ∧ Below w.heap.size w w')
    (BE : ∀ w, Calls Tryd.prog 13 #[.string { data := #[61, 61] }, .agg #[.int .i64 t, .int .i64 n, .string xa], .agg #[.int .i64 t, .int .i64 n, .string xa]] w fun e w' => e = .returned (.tuple #[.agg #[.int .i64 2, .int .i64 1, .string { data := #[] }], .int .i64 0]) ∧ Below w.heap.size w w')
    (BN : ∀ w, Calls Tryd.prog 13 #[.string { data := #[33, 61] }, .agg #[.int .i64 t, .int .i64 n, .string xa], .agg #[.int .i64 t, .int .i64 n, .string xa]] w fun e w' => e = .returned (.tuple #[.agg #[.int .i64 2, .int .i64 0, .string { data := #[] }], .int .i64 0]) ∧ Below w.heap.size w w')
    (w : World) (hT : TabW w) :
    Calls Tryd.prog 6 #[.agg #[.int .i64 t, .int .i64 n, .string sa], .agg #[.int .i64 t, .int .i64 n, .string sb]] w fun e w' => e = .returned (.bool true) ∧ Below w.heap.size w w' := by
  have SA' := Lib.hid SA
  have SB' := Lib.hid SB
  have MA' := Lib.hid MA
  have BE' := Lib.hid BE
  have BN' := Lib.hid BN
  have HT := Lib.hid hT
  clear hT SA SB MA BE BN
  subst h4
  go_enter Tryd.func6, Tryd.ntmps6
  go_wp2_with fail
  refine (shown_any _).mono ?_
  rintro e w1 ⟨rfl, hb1⟩
  have p0 : w1.cell? ⟨w.heap.size, 0, none⟩ = some (.int .i64 4) := (hb1.cell (p := ⟨w.heap.size, 0, none⟩) (by simp; omega)).trans (by simp)
  have p1 : w1.cell? ⟨w.heap.size, 1, none⟩ = some (.int .i64 n) := (hb1.cell (p := ⟨w.heap.size, 1, none⟩) (by simp; omega)).trans (by simp)
  have p2 : w1.cell? ⟨w.heap.size, 2, none⟩ = some (.string sa) := (hb1.cell (p := ⟨w.heap.size, 2, none⟩) (by simp; omega)).trans (by simp)
  have q0 : w1.cell? ⟨w.heap.size + 1, 0, none⟩ = some (.int .i64 4) := (hb1.cell (p := ⟨w.heap.size + 1, 0, none⟩) (by simp)).trans (by simp)
  have q1 : w1.cell? ⟨w.heap.size + 1, 1, none⟩ = some (.int .i64 n) := (hb1.cell (p := ⟨w.heap.size + 1, 1, none⟩) (by simp)).trans (by simp)
  have q2 : w1.cell? ⟨w.heap.size + 1, 2, none⟩ = some (.string sb) := (hb1.cell (p := ⟨w.heap.size + 1, 2, none⟩) (by simp)).trans (by simp)
  have f0 : ∀ k, w1.frozen? ⟨w.heap.size, k, none⟩ = false := fun k => (hb1.frozen (p := ⟨w.heap.size, k, none⟩) (by simp; omega)).trans (by simp)
  have g0 : ∀ k, w1.frozen? ⟨w.heap.size + 1, k, none⟩ = false := fun k => (hb1.frozen (p := ⟨w.heap.size + 1, k, none⟩) (by simp)).trans (by simp)
  have hz : w.heap.size + 1 < w1.heap.size := by have := hb1.size; simp at this; omega
  have B : Below w.heap.size w w1 := (((Below.refl _ _).alloc (Nat.le_refl _) _).alloc (by simp) _).trans (hb1.mono (by simp; omega))
  obtain ⟨P, hP⟩ : ∃ P : Nat, P = w.heap.size := ⟨_, rfl⟩
  obtain ⟨Q, hQ⟩ : ∃ Q : Nat, Q = w.heap.size + 1 := ⟨_, rfl⟩
  clear hb1
  rw [← hQ] at q0 q1 q2 g0 hz
  rw [← hP] at p0 p1 p2 f0
  have hPQ : P < Q := by omega
  have hwP : w.heap.size ≤ P := by omega
  have hwQ : w.heap.size ≤ Q := by omega
  rw [← hQ, ← hP]
  clear hP hQ
  go_wp2_with fail
  refine (SA'.out _).mono ?_
  rintro e w2 ⟨rfl, hb⟩
  replace p0 := keep_cell hb (by omega) p0
  replace p1 := keep_cell hb (by omega) p1
  replace p2 := keep_cell hb (by omega) p2
  replace q0 := keep_cell hb hz q0
  replace q1 := keep_cell hb hz q1
  replace q2 := keep_cell hb hz q2
  replace f0 := fun k => ((bcell hb).2 P k (by omega)).trans (f0 k)
  replace g0 := fun k => ((bcell hb).2 Q k hz).trans (g0 k)
  replace hz := Nat.lt_of_lt_of_le hz hb.size
  replace B := B.trans (hb.mono B.size)
  clear hb
  have hPQ1 : ¬ P = Q := by omega
  have hPQ2 : ¬ Q = P := by omega
  go_wp2_with fail
  have np0 : (((w2.setCell ⟨P, 0, none⟩ (.int .i64 4)).setCell ⟨P, 1, none⟩ (.int .i64 n)).setCell ⟨P, 2, none⟩ (.string xa)).cell? ⟨P, 0, none⟩ = some (.int .i64 4) := by (go_simp; done)
  have np1 : (((w2.setCell ⟨P, 0, none⟩ (.int .i64 4)).setCell ⟨P, 1, none⟩ (.int .i64 n)).setCell ⟨P, 2, none⟩ (.string xa)).cell? ⟨P, 1, none⟩ = some (.int .i64 n) := by (go_simp; done)
  have np2 : (((w2.setCell ⟨P, 0, none⟩ (.int .i64 4)).setCell ⟨P, 1, none⟩ (.int .i64 n)).setCell ⟨P, 2, none⟩ (.string xa)).cell? ⟨P, 2, none⟩ = some (.string xa) := by (go_simp; done)
  have nq0 : (((w2.setCell ⟨P, 0, none⟩ (.int .i64 4)).setCell ⟨P, 1, none⟩ (.int .i64 n)).setCell ⟨P, 2, none⟩ (.string xa)).cell? ⟨Q, 0, none⟩ = some (.int .i64 4) := by (go_simp; done)
  have nq1 : (((w2.setCell ⟨P, 0, none⟩ (.int .i64 4)).setCell ⟨P, 1, none⟩ (.int .i64 n)).setCell ⟨P, 2, none⟩ (.string xa)).cell? ⟨Q, 1, none⟩ = some (.int .i64 n) := by (go_simp; done)
  have nq2 : (((w2.setCell ⟨P, 0, none⟩ (.int .i64 4)).setCell ⟨P, 1, none⟩ (.int .i64 n)).setCell ⟨P, 2, none⟩ (.string xa)).cell? ⟨Q, 2, none⟩ = some (.string sb) := by (go_simp; done)
  have nf0 : ∀ k, (((w2.setCell ⟨P, 0, none⟩ (.int .i64 4)).setCell ⟨P, 1, none⟩ (.int .i64 n)).setCell ⟨P, 2, none⟩ (.string xa)).frozen? ⟨P, k, none⟩ = false := fun k => by simp [f0]
  have ng0 : ∀ k, (((w2.setCell ⟨P, 0, none⟩ (.int .i64 4)).setCell ⟨P, 1, none⟩ (.int .i64 n)).setCell ⟨P, 2, none⟩ (.string xa)).frozen? ⟨Q, k, none⟩ = false := fun k => by simp [g0]
  have nhz : Q < (((w2.setCell ⟨P, 0, none⟩ (.int .i64 4)).setCell ⟨P, 1, none⟩ (.int .i64 n)).setCell ⟨P, 2, none⟩ (.string xa)).heap.size := by simpa using hz
  have nB : Below w.heap.size w (((w2.setCell ⟨P, 0, none⟩ (.int .i64 4)).setCell ⟨P, 1, none⟩ (.int .i64 n)).setCell ⟨P, 2, none⟩ (.string xa)) := ((B.setCell (p := ⟨P, 0, none⟩) hwP _).setCell (p := ⟨P, 1, none⟩) hwP _).setCell (p := ⟨P, 2, none⟩) hwP _
  refine (SB'.out _).mono ?_
  rintro e w3 ⟨rfl, hb⟩
  replace p0 := keep_cell hb (Nat.lt_trans hPQ nhz) np0
  replace p1 := keep_cell hb (Nat.lt_trans hPQ nhz) np1
  replace p2 := keep_cell hb (Nat.lt_trans hPQ nhz) np2
  replace q0 := keep_cell hb nhz nq0
  replace q1 := keep_cell hb nhz nq1
  replace q2 := keep_cell hb nhz nq2
  replace f0 := fun k => ((bcell hb).2 P k (Nat.lt_trans hPQ nhz)).trans (nf0 k)
  replace g0 := fun k => ((bcell hb).2 Q k nhz).trans (ng0 k)
  replace B := nB.trans (hb.mono nB.size)
  replace hz := Nat.lt_of_lt_of_le nhz hb.size
  clear hb nB nhz nf0 ng0 np0 np1 np2 nq0 nq1 nq2
  go_wp2_with fail
  have np0 : (((w3.setCell ⟨Q, 0, none⟩ (.int .i64 4)).setCell ⟨Q, 1, none⟩ (.int .i64 n)).setCell ⟨Q, 2, none⟩ (.string xa)).cell? ⟨P, 0, none⟩ = some (.int .i64 4) := by (go_simp; done)
  have np1 : (((w3.setCell ⟨Q, 0, none⟩ (.int .i64 4)).setCell ⟨Q, 1, none⟩ (.int .i64 n)).setCell ⟨Q, 2, none⟩ (.string xa)).cell? ⟨P, 1, none⟩ = some (.int .i64 n) := by (go_simp; done)
  have np2 : (((w3.setCell ⟨Q, 0, none⟩ (.int .i64 4)).setCell ⟨Q, 1, none⟩ (.int .i64 n)).setCell ⟨Q, 2, none⟩ (.string xa)).cell? ⟨P, 2, none⟩ = some (.string xa) := by (go_simp; done)
  have nq0 : (((w3.setCell ⟨Q, 0, none⟩ (.int .i64 4)).setCell ⟨Q, 1, none⟩ (.int .i64 n)).setCell ⟨Q, 2, none⟩ (.string xa)).cell? ⟨Q, 0, none⟩ = some (.int .i64 4) := by (go_simp; done)
  have nq1 : (((w3.setCell ⟨Q, 0, none⟩ (.int .i64 4)).setCell ⟨Q, 1, none⟩ (.int .i64 n)).setCell ⟨Q, 2, none⟩ (.string xa)).cell? ⟨Q, 1, none⟩ = some (.int .i64 n) := by (go_simp; done)
  have nq2 : (((w3.setCell ⟨Q, 0, none⟩ (.int .i64 4)).setCell ⟨Q, 1, none⟩ (.int .i64 n)).setCell ⟨Q, 2, none⟩ (.string xa)).cell? ⟨Q, 2, none⟩ = some (.string xa) := by (go_simp; done)
  have nf0 : ∀ k, (((w3.setCell ⟨Q, 0, none⟩ (.int .i64 4)).setCell ⟨Q, 1, none⟩ (.int .i64 n)).setCell ⟨Q, 2, none⟩ (.string xa)).frozen? ⟨P, k, none⟩ = false := fun k => by simp [f0]
  have ng0 : ∀ k, (((w3.setCell ⟨Q, 0, none⟩ (.int .i64 4)).setCell ⟨Q, 1, none⟩ (.int .i64 n)).setCell ⟨Q, 2, none⟩ (.string xa)).frozen? ⟨Q, k, none⟩ = false := fun k => by simp [g0]
  have nhz : Q < (((w3.setCell ⟨Q, 0, none⟩ (.int .i64 4)).setCell ⟨Q, 1, none⟩ (.int .i64 n)).setCell ⟨Q, 2, none⟩ (.string xa)).heap.size := by simpa using hz
  have nB : Below w.heap.size w (((w3.setCell ⟨Q, 0, none⟩ (.int .i64 4)).setCell ⟨Q, 1, none⟩ (.int .i64 n)).setCell ⟨Q, 2, none⟩ (.string xa)) := ((B.setCell (p := ⟨Q, 0, none⟩) hwQ _).setCell (p := ⟨Q, 1, none⟩) hwQ _).setCell (p := ⟨Q, 2, none⟩) hwQ _
  refine (text_any _ _).mono ?_
  rintro e w4 ⟨rfl, hb⟩
  have d10 := keep_cell hb (Nat.lt_trans hPQ nhz) np0
  have d11 := keep_cell hb (Nat.lt_trans hPQ nhz) np1
  have d12 := keep_cell hb (Nat.lt_trans hPQ nhz) np2
  have d20 := keep_cell hb nhz nq0
  have d21 := keep_cell hb nhz nq1
  have d22 := keep_cell hb nhz nq2
  replace B := nB.trans (hb.mono nB.size)
  have y2 := Nat.lt_of_lt_of_le nhz hb.size
  have y1 : P < w4.heap.size := Nat.lt_trans hPQ y2
  clear hb nB nhz nf0 ng0 np0 np1 np2 nq0 nq1 nq2 p0 p1 p2 q0 q1 q2 f0 g0 hz
  go_wp2_with fail
  refine (text_any _ _).mono ?_
  rintro e x11 ⟨rfl, hb⟩
  replace d10 := up_cell hb y1 d10
  replace d11 := up_cell hb y1 d11
  replace d12 := up_cell hb y1 d12
  replace y1 := up_size hb (Nat.le_of_lt y1)
  replace d20 := up_cell hb y2 d20
  replace d21 := up_cell hb y2 d21
  replace d22 := up_cell hb y2 d22
  replace y2 := up_size hb (Nat.le_of_lt y2)
  obtain ⟨d30, d31, d32⟩ := new_cell hb
  have y3 : w4.heap.size < x11.heap.size := up_size hb (Nat.le_refl _)
  replace B := up_below hb B
  clear hb
  go_wp2_with fail
  refine (bin_plus xa xa hla hla hl _).mono ?_
  rintro e x12 ⟨rfl, hb⟩
  replace d10 := up_cell hb y1 d10
  replace d11 := up_cell hb y1 d11
  replace d12 := up_cell hb y1 d12
  replace y1 := up_size hb (Nat.le_of_lt y1)
  replace d20 := up_cell hb y2 d20
  replace d21 := up_cell hb y2 d21
  replace d22 := up_cell hb y2 d22
  replace y2 := up_size hb (Nat.le_of_lt y2)
  replace d30 := up_cell hb y3 d30
  replace d31 := up_cell hb y3 d31
  replace d32 := up_cell hb y3 d32
  replace y3 := up_size hb (Nat.le_of_lt y3)
  obtain ⟨d40, d41, d42⟩ := new_cell hb
  have y4 : x11.heap.size < x12.heap.size := up_size hb (Nat.le_refl _)
  replace B := up_below hb B
  clear hb
  have hI : (xa.size : Int) + (xa.size : Int) ≤ 40 := by omega
  have hI1 : (xa.size : Int) ≤ 60 := by omega
  go_wp2_with fail
  refine (MA'.out _).mono ?_
  rintro e x13 ⟨rfl, hb⟩
  replace d10 := up_cell hb y1 d10
  replace d11 := up_cell hb y1 d11
  replace d12 := up_cell hb y1 d12
  replace y1 := up_size hb (Nat.le_of_lt y1)
  replace d20 := up_cell hb y2 d20
  replace d21 := up_cell hb y2 d21
  replace d22 := up_cell hb y2 d22
  replace y2 := up_size hb (Nat.le_of_lt y2)
  replace d30 := up_cell hb y3 d30
  replace d31 := up_cell hb y3 d31
  replace d32 := up_cell hb y3 d32
  replace y3 := up_size hb (Nat.le_of_lt y3)
  replace d40 := up_cell hb y4 d40
  replace d41 := up_cell hb y4 d41
  replace d42 := up_cell hb y4 d42
  replace y4 := up_size hb (Nat.le_of_lt y4)
  obtain ⟨d50, d51, d52⟩ := new_cell hb
  have y5 : x12.heap.size < x13.heap.size := up_size hb (Nat.le_refl _)
  replace B := up_below hb B
  clear hb
  clear hI
  go_wp2_with fail
  refine (MA'.out _).mono ?_
  rintro e x14 ⟨rfl, hb⟩
  replace d10 := keep_cell hb y1 d10
  replace d11 := keep_cell hb y1 d11
  replace d12 := keep_cell hb y1 d12
  replace y1 := Nat.lt_of_lt_of_le y1 hb.size
  replace d20 := keep_cell hb y2 d20
  replace d21 := keep_cell hb y2 d21
  replace d22 := keep_cell hb y2 d22
  replace y2 := Nat.lt_of_lt_of_le y2 hb.size
  replace d30 := keep_cell hb y3 d30
  replace d31 := keep_cell hb y3 d31
  replace d32 := keep_cell hb y3 d32
  replace y3 := Nat.lt_of_lt_of_le y3 hb.size
  replace d40 := keep_cell hb y4 d40
  replace d41 := keep_cell hb y4 d41
  replace d42 := keep_cell hb y4 d42
  replace y4 := Nat.lt_of_lt_of_le y4 hb.size
  replace d50 := keep_cell hb y5 d50
  replace d51 := keep_cell hb y5 d51
  replace d52 := keep_cell hb y5 d52
  replace y5 := Nat.lt_of_lt_of_le y5 hb.size
  replace B := keep_below B hb
  clear hb
  go_wp2_with fail
  refine (BE'.out _).mono ?_
  rintro e x15 ⟨rfl, hb⟩
  replace d10 := keep_cell hb y1 d10
  replace d11 := keep_cell hb y1 d11
  replace d12 := keep_cell hb y1 d12
  replace y1 := Nat.lt_of_lt_of_le y1 hb.size
  replace d20 := keep_cell hb y2 d20
  replace d21 := keep_cell hb y2 d21
  replace d22 := keep_cell hb y2 d22
  replace y2 := Nat.lt_of_lt_of_le y2 hb.size
  replace d30 := keep_cell hb y3 d30
  replace d31 := keep_cell hb y3 d31
  replace d32 := keep_cell hb y3 d32
  replace y3 := Nat.lt_of_lt_of_le y3 hb.size
  replace d40 := keep_cell hb y4 d40
  replace d41 := keep_cell hb y4 d41
  replace d42 := keep_cell hb y4 d42
  replace y4 := Nat.lt_of_lt_of_le y4 hb.size
  replace d50 := keep_cell hb y5 d50
  replace d51 := keep_cell hb y5 d51
  replace d52 := keep_cell hb y5 d52
  replace y5 := Nat.lt_of_lt_of_le y5 hb.size
  replace B := keep_below B hb
  clear hb
  go_wp2_with fail
  refine (BN'.out _).mono ?_
  rintro e x16 ⟨rfl, hb⟩
  replace d10 := up_cell hb y1 d10
  replace d11 := up_cell hb y1 d11
  replace d12 := up_cell hb y1 d12
  replace y1 := up_size hb (Nat.le_of_lt y1)
  replace d20 := up_cell hb y2 d20
  replace d21 := up_cell hb y2 d21
  replace d22 := up_cell hb y2 d22
  replace y2 := up_size hb (Nat.le_of_lt y2)
  replace d30 := up_cell hb y3 d30
  replace d31 := up_cell hb y3 d31
  replace d32 := up_cell hb y3 d32
  replace y3 := up_size hb (Nat.le_of_lt y3)
  replace d40 := up_cell hb y4 d40
  replace d41 := up_cell hb y4 d41
  replace d42 := up_cell hb y4 d42
  replace y4 := up_size hb (Nat.le_of_lt y4)
  replace d50 := up_cell hb y5 d50
  replace d51 := up_cell hb y5 d51
  replace d52 := up_cell hb y5 d52
  replace y5 := up_size hb (Nat.le_of_lt y5)
  obtain ⟨d60, d61, d62⟩ := new_cell hb
  have y6 : x15.heap.size < x16.heap.size := up_size hb (Nat.le_refl _)
  replace B := up_below hb B
  clear hb
  go_upto_region 13 with fail
  obtain ⟨W16, hW⟩ : ∃ W : World, W = x16.alloc (.cells #[.int .i64 2, .int .i64 0, .string { data := #[] }] 23) := ⟨_, rfl⟩
  replace d10 : W16.cell? ⟨P, 0, none⟩ = _ := (congrArg (fun W : World => W.cell? ⟨P, 0, none⟩) hW).trans (at_alloc y1 d10)
  replace d11 : W16.cell? ⟨P, 1, none⟩ = _ := (congrArg (fun W : World => W.cell? ⟨P, 1, none⟩) hW).trans (at_alloc y1 d11)
  replace d12 : W16.cell? ⟨P, 2, none⟩ = _ := (congrArg (fun W : World => W.cell? ⟨P, 2, none⟩) hW).trans (at_alloc y1 d12)
  replace y1 : P < W16.heap.size := by rw [hW]; simp; omega
  replace d20 : W16.cell? ⟨Q, 0, none⟩ = _ := (congrArg (fun W : World => W.cell? ⟨Q, 0, none⟩) hW).trans (at_alloc y2 d20)
  replace d21 : W16.cell? ⟨Q, 1, none⟩ = _ := (congrArg (fun W : World => W.cell? ⟨Q, 1, none⟩) hW).trans (at_alloc y2 d21)
  replace d22 : W16.cell? ⟨Q, 2, none⟩ = _ := (congrArg (fun W : World => W.cell? ⟨Q, 2, none⟩) hW).trans (at_alloc y2 d22)
  replace y2 : Q < W16.heap.size := by rw [hW]; simp; omega
  replace d30 : W16.cell? ⟨w4.heap.size, 0, none⟩ = _ := (congrArg (fun W : World => W.cell? ⟨w4.heap.size, 0, none⟩) hW).trans (at_alloc y3 d30)
  replace d31 : W16.cell? ⟨w4.heap.size, 1, none⟩ = _ := (congrArg (fun W : World => W.cell? ⟨w4.heap.size, 1, none⟩) hW).trans (at_alloc y3 d31)
  replace d32 : W16.cell? ⟨w4.heap.size, 2, none⟩ = _ := (congrArg (fun W : World => W.cell? ⟨w4.heap.size, 2, none⟩) hW).trans (at_alloc y3 d32)
  replace y3 : w4.heap.size < W16.heap.size := by rw [hW]; simp; omega
  replace d40 : W16.cell? ⟨x11.heap.size, 0, none⟩ = _ := (congrArg (fun W : World => W.cell? ⟨x11.heap.size, 0, none⟩) hW).trans (at_alloc y4 d40)
  replace d41 : W16.cell? ⟨x11.heap.size, 1, none⟩ = _ := (congrArg (fun W : World => W.cell? ⟨x11.heap.size, 1, none⟩) hW).trans (at_alloc y4 d41)
  replace d42 : W16.cell? ⟨x11.heap.size, 2, none⟩ = _ := (congrArg (fun W : World => W.cell? ⟨x11.heap.size, 2, none⟩) hW).trans (at_alloc y4 d42)
  replace y4 : x11.heap.size < W16.heap.size := by rw [hW]; simp; omega
  replace d50 : W16.cell? ⟨x12.heap.size, 0, none⟩ = _ := (congrArg (fun W : World => W.cell? ⟨x12.heap.size, 0, none⟩) hW).trans (at_alloc y5 d50)
  replace d51 : W16.cell? ⟨x12.heap.size, 1, none⟩ = _ := (congrArg (fun W : World => W.cell? ⟨x12.heap.size, 1, none⟩) hW).trans (at_alloc y5 d51)
  replace d52 : W16.cell? ⟨x12.heap.size, 2, none⟩ = _ := (congrArg (fun W : World => W.cell? ⟨x12.heap.size, 2, none⟩) hW).trans (at_alloc y5 d52)
  replace y5 : x12.heap.size < W16.heap.size := by rw [hW]; simp; omega
  replace d60 : W16.cell? ⟨x15.heap.size, 0, none⟩ = _ := (congrArg (fun W : World => W.cell? ⟨x15.heap.size, 0, none⟩) hW).trans (at_alloc y6 d60)
  replace d61 : W16.cell? ⟨x15.heap.size, 1, none⟩ = _ := (congrArg (fun W : World => W.cell? ⟨x15.heap.size, 1, none⟩) hW).trans (at_alloc y6 d61)
  replace d62 : W16.cell? ⟨x15.heap.size, 2, none⟩ = _ := (congrArg (fun W : World => W.cell? ⟨x15.heap.size, 2, none⟩) hW).trans (at_alloc y6 d62)
  replace y6 : x15.heap.size < W16.heap.size := by rw [hW]; simp; omega
  obtain ⟨d70, d71, d72⟩ : W16.cell? ⟨x16.heap.size, 0, none⟩ = some (.int .i64 2) ∧ W16.cell? ⟨x16.heap.size, 1, none⟩ = some (.int .i64 0) ∧ W16.cell? ⟨x16.heap.size, 2, none⟩ = some (.string { data := #[] }) := by rw [hW]; exact at_new
  have y7 : x16.heap.size < W16.heap.size := by rw [hW]; simp
  replace B : Below w.heap.size w W16 := by rw [hW]; exact B.alloc B.size _
  rw [← hW]
  clear hW
  clear d30 d31 d32 y3
  clear d40 d41 d42 y4
  clear d50 d51 d52 y5
  have mk : ∀ w' : World, Below W16.heap.size W16 w' → (w'.cell? ⟨P, 0, none⟩ = some (.int .i64 4) ∧ w'.cell? ⟨P, 1, none⟩ = some (.int .i64 n) ∧ w'.cell? ⟨P, 2, none⟩ = some (.string xa) ∧ w'.cell? ⟨Q, 0, none⟩ = some (.int .i64 4) ∧ w'.cell? ⟨Q, 1, none⟩ = some (.int .i64 n) ∧ w'.cell? ⟨Q, 2, none⟩ = some (.string xa) ∧ w'.cell? ⟨x15.heap.size, 0, none⟩ = some (.int .i64 2) ∧ w'.cell? ⟨x15.heap.size, 1, none⟩ = some (.int .i64 1) ∧ w'.cell? ⟨x15.heap.size, 2, none⟩ = some (.string { data := #[] }) ∧ w'.cell? ⟨x16.heap.size, 0, none⟩ = some (.int .i64 2) ∧ w'.cell? ⟨x16.heap.size, 1, none⟩ = some (.int .i64 0) ∧ w'.cell? ⟨x16.heap.size, 2, none⟩ = some (.string { data := #[] }) ∧ Below W16.heap.size W16 w') := fun w' h => ⟨keep_cell h y1 d10, keep_cell h y1 d11, keep_cell h y1 d12, keep_cell h y2 d20, keep_cell h y2 d21, keep_cell h y2 d22, keep_cell h y6 d60, keep_cell h y6 d61, keep_cell h y6 d62, keep_cell h y7 d70, keep_cell h y7 d71, keep_cell h y7 d72, h⟩
  have MK := Lib.hid mk
  clear mk
  refine wp_region_held_drew (S := fun w' => w'.cell? ⟨P, 0, none⟩ = some (.int .i64 4) ∧ w'.cell? ⟨P, 1, none⟩ = some (.int .i64 n) ∧ w'.cell? ⟨P, 2, none⟩ = some (.string xa) ∧ w'.cell? ⟨Q, 0, none⟩ = some (.int .i64 4) ∧ w'.cell? ⟨Q, 1, none⟩ = some (.int .i64 n) ∧ w'.cell? ⟨Q, 2, none⟩ = some (.string xa) ∧ w'.cell? ⟨x15.heap.size, 0, none⟩ = some (.int .i64 2) ∧ w'.cell? ⟨x15.heap.size, 1, none⟩ = some (.int .i64 1) ∧ w'.cell? ⟨x15.heap.size, 2, none⟩ = some (.string { data := #[] }) ∧ w'.cell? ⟨x16.heap.size, 0, none⟩ = some (.int .i64 2) ∧ w'.cell? ⟨x16.heap.size, 1, none⟩ = some (.int .i64 0) ∧ w'.cell? ⟨x16.heap.size, 2, none⟩ = some (.string { data := #[] }) ∧ Below W16.heap.size W16 w') (by kernel_rfl) (MK.out _ (Below.drew (Below.refl _ _))) (fun hHeld => ?_)
  refine wpAnyH_take (i := 0) (v := ?_) rfl (by kernel_rfl) (by kernel_rfl) (by kernel_rfl) (fun _ _ _ h => h) (Or.inl ⟨by rfl, ?_⟩) (by assumption) ?_
  rotate_left
  · (intro w' hSw; (try dsimp only at hSw); go_simp; (try (with_reducible rfl)))
  simp only [Act.put, List.getElem_toArray, List.getElem_cons_zero, List.setIfInBounds_toArray, List.set_cons_succ, List.set_cons_zero]
  refine wpAnyH_take (i := 1) (v := ?_) rfl (by kernel_rfl) (by kernel_rfl) (by kernel_rfl) (fun _ _ _ h => h) (Or.inl ⟨by rfl, ?_⟩) (by assumption) ?_
  rotate_left
  · (intro w' hSw; (try dsimp only at hSw); go_simp; (try (with_reducible rfl)))
  simp only [Act.put, List.getElem_toArray, List.getElem_cons_succ, List.getElem_cons_zero, List.setIfInBounds_toArray, List.set_cons_succ, List.set_cons_zero]
  refine wpAnyH_take (i := 2) (v := ?_) rfl (by kernel_rfl) (by kernel_rfl) (by kernel_rfl) (fun _ _ _ h => h) (Or.inl ⟨by rfl, ?_⟩) (by assumption) ?_
  rotate_left
  · (intro w' hSw; (try dsimp only at hSw); go_simp; (try (with_reducible rfl)))
  simp only [Act.put, List.getElem_toArray, List.getElem_cons_succ, List.getElem_cons_zero, List.setIfInBounds_toArray, List.set_cons_succ, List.set_cons_zero]
  refine wpAnyH_take (i := 3) (v := ?_) rfl (by kernel_rfl) (by kernel_rfl) (by kernel_rfl) (fun _ _ _ h => h) (Or.inl ⟨by rfl, ?_⟩) (by assumption) ?_
  rotate_left
  · (intro w' hSw; (try dsimp only at hSw); go_simp; (try (with_reducible rfl)))
  simp only [Act.put, List.getElem_toArray, List.getElem_cons_succ, List.getElem_cons_zero, List.setIfInBounds_toArray, List.set_cons_succ, List.set_cons_zero]
  refine wpAnyH_take (i := 4) (v := ?_) rfl (by kernel_rfl) (by kernel_rfl) (by kernel_rfl) (fun _ _ _ h => h) (Or.inl ⟨by rfl, ?_⟩) (by assumption) ?_
  rotate_left
  · (intro w' hSw; (try dsimp only at hSw); go_simp; (try (with_reducible rfl)))
  simp only [Act.put, List.getElem_toArray, List.getElem_cons_succ, List.getElem_cons_zero, List.setIfInBounds_toArray, List.set_cons_succ, List.set_cons_zero]
  refine wpAnyH_take (i := 5) (v := ?_) rfl (by kernel_rfl) (by kernel_rfl) (by kernel_rfl) (fun _ _ _ h => h) (Or.inl ⟨by rfl, ?_⟩) (by assumption) ?_
  rotate_left
  · (intro w' hSw; (try dsimp only at hSw); go_simp; (try (with_reducible rfl)))
  simp only [Act.put, List.getElem_toArray, List.getElem_cons_succ, List.getElem_cons_zero, List.setIfInBounds_toArray, List.set_cons_succ, List.set_cons_zero]
  refine wpAnyH_take (i := 6) (v := ?_) rfl (by kernel_rfl) (by kernel_rfl) (by kernel_rfl) (fun _ _ _ h => h) (Or.inl ⟨by rfl, ?_⟩) (by assumption) ?_
  rotate_left
  · (intro w' hSw; (try dsimp only at hSw); go_simp; (try (with_reducible rfl)))
  simp only [Act.put, List.getElem_toArray, List.getElem_cons_succ, List.getElem_cons_zero, List.setIfInBounds_toArray, List.set_cons_succ, List.set_cons_zero]
  refine wpAnyH_take (i := 7) (v := ?_) rfl (by kernel_rfl) (by kernel_rfl) (by kernel_rfl) (fun _ _ _ h => h) (Or.inl ⟨by rfl, ?_⟩) (by assumption) ?_
  rotate_left
  · (intro w' hSw; (try dsimp only at hSw); go_simp; (try (with_reducible rfl)))
  simp only [Act.put, List.getElem_toArray, List.getElem_cons_succ, List.getElem_cons_zero, List.setIfInBounds_toArray, List.set_cons_succ, List.set_cons_zero]
  refine wpAnyH_take (i := 8) (v := ?_) rfl (by kernel_rfl) (by kernel_rfl) (by kernel_rfl) (fun _ _ _ h => h) (Or.inl ⟨by rfl, ?_⟩) (by assumption) ?_
  rotate_left
  · (intro w' hSw; (try dsimp only at hSw); go_simp; (try (with_reducible rfl)))
  simp only [Act.put, List.getElem_toArray, List.getElem_cons_succ, List.getElem_cons_zero, List.setIfInBounds_toArray, List.set_cons_succ, List.set_cons_zero]
  refine wpAnyH_ready (rs := [9]) (by kernel_rfl) (by simp) ?_
  refine AllReadyH.cons rfl (fun K hK => ?_) AllReadyH.nil
  go_simp
  (go_at_call 23; refine (logic.sign_not0 _).mono ?_; rintro e w4 ⟨rfl, hb4⟩; (try go_simp))
  refine hK.out _ _ ?_ (fun hHeld => ?_)
  · (try dsimp only); exact MK.out _ (keep_below hHeld.2.2.2.2.2.2.2.2.2.2.2.2 hb4)
  clear hK K
  refine wpAnyH_take (i := 10) (v := ?_) rfl (by kernel_rfl) (by kernel_rfl) (by kernel_rfl) (fun _ _ _ h => h) (Or.inl ⟨by rfl, ?_⟩) (by assumption) ?_
  rotate_left
  · (intro w' hSw; (try dsimp only at hSw); go_simp; (try (with_reducible rfl)))
  simp only [Act.put, List.getElem_toArray, List.getElem_cons_succ, List.getElem_cons_zero, List.setIfInBounds_toArray, List.set_cons_succ, List.set_cons_zero]
  refine wpAnyH_take (i := 11) (v := ?_) rfl (by kernel_rfl) (by kernel_rfl) (by kernel_rfl) (fun _ _ _ h => h) (Or.inl ⟨by rfl, ?_⟩) (by assumption) ?_
  rotate_left
  · (intro w' hSw; (try dsimp only at hSw); go_simp; (try (with_reducible rfl)))
  simp only [Act.put, List.getElem_toArray, List.getElem_cons_succ, List.getElem_cons_zero, List.setIfInBounds_toArray, List.set_cons_succ, List.set_cons_zero]
  refine wpAnyH_take (i := 12) (v := ?_) rfl (by kernel_rfl) (by kernel_rfl) (by kernel_rfl) (fun _ _ _ h => h) (Or.inl ⟨by rfl, ?_⟩) (by assumption) ?_
  rotate_left
  · (intro w' hSw; (try dsimp only at hSw); go_simp; (try (with_reducible rfl)))
  simp only [Act.put, List.getElem_toArray, List.getElem_cons_succ, List.getElem_cons_zero, List.setIfInBounds_toArray, List.set_cons_succ, List.set_cons_zero]
  refine wpAnyH_take (i := 13) (v := ?_) rfl (by kernel_rfl) (by kernel_rfl) (by kernel_rfl) (fun _ _ _ h => h) (Or.inl ⟨by rfl, ?_⟩) (by assumption) ?_
  rotate_left
  · (intro w' hSw; (try dsimp only at hSw); go_simp; (try (with_reducible rfl)))
  simp only [Act.put, List.getElem_toArray, List.getElem_cons_succ, List.getElem_cons_zero, List.setIfInBounds_toArray, List.set_cons_succ, List.set_cons_zero]
  refine wpAnyH_take (i := 14) (v := ?_) rfl (by kernel_rfl) (by kernel_rfl) (by kernel_rfl) (fun _ _ _ h => h) (Or.inl ⟨by rfl, ?_⟩) (by assumption) ?_
  rotate_left
  · (intro w' hSw; (try dsimp only at hSw); go_simp; (try (with_reducible rfl)))
  simp only [Act.put, List.getElem_toArray, List.getElem_cons_succ, List.getElem_cons_zero, List.setIfInBounds_toArray, List.set_cons_succ, List.set_cons_zero]
  refine wpAnyH_take (i := 15) (v := ?_) rfl (by kernel_rfl) (by kernel_rfl) (by kernel_rfl) (fun _ _ _ h => h) (Or.inl ⟨by rfl, ?_⟩) (by assumption) ?_
  rotate_left
  · (intro w' hSw; (try dsimp only at hSw); go_simp; (try (with_reducible rfl)))
  simp only [Act.put, List.getElem_toArray, List.getElem_cons_succ, List.getElem_cons_zero, List.setIfInBounds_toArray, List.set_cons_succ, List.set_cons_zero]
  refine wpAnyH_take (i := 16) (v := ?_) rfl (by kernel_rfl) (by kernel_rfl) (by kernel_rfl) (fun _ _ _ h => h) (Or.inl ⟨by rfl, ?_⟩) (by assumption) ?_
  rotate_left
  · (intro w' hSw; (try dsimp only at hSw); go_simp; (try (with_reducible rfl)))
  simp only [Act.put, List.getElem_toArray, List.getElem_cons_succ, List.getElem_cons_zero, List.setIfInBounds_toArray, List.set_cons_succ, List.set_cons_zero]
  refine wpAnyH_take (i := 17) (v := ?_) rfl (by kernel_rfl) (by kernel_rfl) (by kernel_rfl) (fun _ _ _ h => h) (Or.inl ⟨by rfl, ?_⟩) (by assumption) ?_
  rotate_left
  · (intro w' hSw; (try dsimp only at hSw); go_simp; (try (with_reducible rfl)))
  simp only [Act.put, List.getElem_toArray, List.getElem_cons_succ, List.getElem_cons_zero, List.setIfInBounds_toArray, List.set_cons_succ, List.set_cons_zero]
  refine wpAnyH_take (i := 18) (v := ?_) rfl (by kernel_rfl) (by kernel_rfl) (by kernel_rfl) (fun _ _ _ h => h) (Or.inl ⟨by rfl, ?_⟩) (by assumption) ?_
  rotate_left
  · (intro w' hSw; (try dsimp only at hSw); go_simp; (try (with_reducible rfl)))
  simp only [Act.put, List.getElem_toArray, List.getElem_cons_succ, List.getElem_cons_zero, List.setIfInBounds_toArray, List.set_cons_succ, List.set_cons_zero]
  refine wpAnyH_take (i := 19) (v := ?_) rfl (by kernel_rfl) (by kernel_rfl) (by kernel_rfl) (fun _ _ _ h => h) (Or.inl ⟨by rfl, ?_⟩) (by assumption) ?_
  rotate_left
  · (intro w' hSw; (try dsimp only at hSw); go_simp; (try (with_reducible rfl)))
  simp only [Act.put, List.getElem_toArray, List.getElem_cons_succ, List.getElem_cons_zero, List.setIfInBounds_toArray, List.set_cons_succ, List.set_cons_zero]
  refine wpAnyH_take (i := 20) (v := ?_) rfl (by kernel_rfl) (by kernel_rfl) (by kernel_rfl) (fun _ _ _ h => h) (Or.inl ⟨by rfl, ?_⟩) (by assumption) ?_
  rotate_left
  · (intro w' hSw; (try dsimp only at hSw); go_simp; (try (with_reducible rfl)))
  simp only [Act.put, List.getElem_toArray, List.getElem_cons_succ, List.getElem_cons_zero, List.setIfInBounds_toArray, List.set_cons_succ, List.set_cons_zero]
  refine wpAnyH_done (by kernel_rfl) ?_ _
  have hb : Below W16.heap.size W16 w4 := (by assumption : w4.cell? ⟨P, 0, none⟩ = some (.int .i64 4) ∧ w4.cell? ⟨P, 1, none⟩ = some (.int .i64 n) ∧ w4.cell? ⟨P, 2, none⟩ = some (.string xa) ∧ w4.cell? ⟨Q, 0, none⟩ = some (.int .i64 4) ∧ w4.cell? ⟨Q, 1, none⟩ = some (.int .i64 n) ∧ w4.cell? ⟨Q, 2, none⟩ = some (.string xa) ∧ w4.cell? ⟨x15.heap.size, 0, none⟩ = some (.int .i64 2) ∧ w4.cell? ⟨x15.heap.size, 1, none⟩ = some (.int .i64 1) ∧ w4.cell? ⟨x15.heap.size, 2, none⟩ = some (.string { data := #[] }) ∧ w4.cell? ⟨x16.heap.size, 0, none⟩ = some (.int .i64 2) ∧ w4.cell? ⟨x16.heap.size, 1, none⟩ = some (.int .i64 0) ∧ w4.cell? ⟨x16.heap.size, 2, none⟩ = some (.string { data := #[] }) ∧ Below W16.heap.size W16 w4).2.2.2.2.2.2.2.2.2.2.2.2
  replace d10 := keep_cell hb y1 d10
  replace d11 := keep_cell hb y1 d11
  replace d12 := keep_cell hb y1 d12
  replace y1 := Nat.lt_of_lt_of_le y1 hb.size
  replace d20 := keep_cell hb y2 d20
  replace d21 := keep_cell hb y2 d21
  replace d22 := keep_cell hb y2 d22
  replace y2 := Nat.lt_of_lt_of_le y2 hb.size
  replace d60 := keep_cell hb y6 d60
  replace d61 := keep_cell hb y6 d61
  replace d62 := keep_cell hb y6 d62
  replace y6 := Nat.lt_of_lt_of_le y6 hb.size
  replace d70 := keep_cell hb y7 d70
  replace d71 := keep_cell hb y7 d71
  replace d72 := keep_cell hb y7 d72
  replace y7 := Nat.lt_of_lt_of_le y7 hb.size
  replace B := keep_below B hb
  clear hb
  clear MK
  obtain ⟨V5, hV5⟩ : ∃ V5 : World, V5 = w4 := ⟨_, rfl⟩
  subst hV5
  go_upto_region 15 with fail
  have HTV : Hid (TabW V5) := HT.out.below B HT.out.2
  clear d60 d61 d62 y6
  clear d70 d71 d72 y7
  have mk : ∀ w' : World, Below V5.heap.size V5 w' → (w'.cell? ⟨P, 0, none⟩ = some (.int .i64 4) ∧ w'.cell? ⟨P, 1, none⟩ = some (.int .i64 n) ∧ w'.cell? ⟨P, 2, none⟩ = some (.string xa) ∧ w'.cell? ⟨Q, 0, none⟩ = some (.int .i64 4) ∧ w'.cell? ⟨Q, 1, none⟩ = some (.int .i64 n) ∧ w'.cell? ⟨Q, 2, none⟩ = some (.string xa) ∧ Below V5.heap.size V5 w') := fun w' h => ⟨keep_cell h y1 d10, keep_cell h y1 d11, keep_cell h y1 d12, keep_cell h y2 d20, keep_cell h y2 d21, keep_cell h y2 d22, h⟩
  have MK := Lib.hid mk
  clear mk
  refine wp_region_held_drew (S := fun w' => w'.cell? ⟨P, 0, none⟩ = some (.int .i64 4) ∧ w'.cell? ⟨P, 1, none⟩ = some (.int .i64 n) ∧ w'.cell? ⟨P, 2, none⟩ = some (.string xa) ∧ w'.cell? ⟨Q, 0, none⟩ = some (.int .i64 4) ∧ w'.cell? ⟨Q, 1, none⟩ = some (.int .i64 n) ∧ w'.cell? ⟨Q, 2, none⟩ = some (.string xa) ∧ Below V5.heap.size V5 w') (by kernel_rfl) (MK.out _ (Below.drew (Below.refl _ _))) (fun hHeld => ?_)
  refine wpAnyH_take (i := 0) (v := ?_) rfl (by kernel_rfl) (by kernel_rfl) (by kernel_rfl) (fun _ _ _ h => h) (Or.inl ⟨by rfl, ?_⟩) (by assumption) ?_
  rotate_left
  · (intro w' hSw; (try dsimp only at hSw); go_simp; (try (with_reducible rfl)))
  simp only [Act.put, List.getElem_toArray, List.getElem_cons_zero, List.setIfInBounds_toArray, List.set_cons_succ, List.set_cons_zero]
  refine wpAnyH_take (i := 1) (v := ?_) rfl (by kernel_rfl) (by kernel_rfl) (by kernel_rfl) (fun _ _ _ h => h) (Or.inl ⟨by rfl, ?_⟩) (by assumption) ?_
  rotate_left
  · (intro w' hSw; (try dsimp only at hSw); go_simp; (try (with_reducible rfl)))
  simp only [Act.put, List.getElem_toArray, List.getElem_cons_succ, List.getElem_cons_zero, List.setIfInBounds_toArray, List.set_cons_succ, List.set_cons_zero]
  refine wpAnyH_take (i := 2) (v := ?_) rfl (by kernel_rfl) (by kernel_rfl) (by kernel_rfl) (fun _ _ _ h => h) (Or.inl ⟨by rfl, ?_⟩) (by assumption) ?_
  rotate_left
  · (intro w' hSw; (try dsimp only at hSw); go_simp; (try (with_reducible rfl)))
  simp only [Act.put, List.getElem_toArray, List.getElem_cons_succ, List.getElem_cons_zero, List.setIfInBounds_toArray, List.set_cons_succ, List.set_cons_zero]
  refine wpAnyH_take (i := 3) (v := ?_) rfl (by kernel_rfl) (by kernel_rfl) (by kernel_rfl) (fun _ _ _ h => h) (Or.inl ⟨by rfl, ?_⟩) (by assumption) ?_
  rotate_left
  · (intro w' hSw; (try dsimp only at hSw); go_simp; (try (with_reducible rfl)))
  simp only [Act.put, List.getElem_toArray, List.getElem_cons_succ, List.getElem_cons_zero, List.setIfInBounds_toArray, List.set_cons_succ, List.set_cons_zero]
  refine wpAnyH_take (i := 4) (v := ?_) rfl (by kernel_rfl) (by kernel_rfl) (by kernel_rfl) (fun _ _ _ h => h) (Or.inl ⟨by rfl, ?_⟩) (by assumption) ?_
  rotate_left
  · (intro w' hSw; (try dsimp only at hSw); go_simp; (try (with_reducible rfl)))
  simp only [Act.put, List.getElem_toArray, List.getElem_cons_succ, List.getElem_cons_zero, List.setIfInBounds_toArray, List.set_cons_succ, List.set_cons_zero]
  refine wpAnyH_take (i := 5) (v := ?_) rfl (by kernel_rfl) (by kernel_rfl) (by kernel_rfl) (fun _ _ _ h => h) (Or.inl ⟨by rfl, ?_⟩) (by assumption) ?_
  rotate_left
  · (intro w' hSw; (try dsimp only at hSw); go_simp; (try (with_reducible rfl)))
  simp only [Act.put, List.getElem_toArray, List.getElem_cons_succ, List.getElem_cons_zero, List.setIfInBounds_toArray, List.set_cons_succ, List.set_cons_zero]
  refine wpAnyH_take (i := 6) (v := undef) rfl (by kernel_rfl) (by kernel_rfl) (by kernel_rfl) (fun _ _ _ h => h) (Or.inr ⟨by rfl, rfl⟩) (by assumption) ?_
  simp only [Act.put, List.getElem_toArray, List.getElem_cons_succ, List.getElem_cons_zero, List.setIfInBounds_toArray, List.set_cons_succ, List.set_cons_zero]
  refine wpAnyH_take (i := 7) (v := undef) rfl (by kernel_rfl) (by kernel_rfl) (by kernel_rfl) (fun _ _ _ h => h) (Or.inr ⟨by rfl, rfl⟩) (by assumption) ?_
  simp only [Act.put, List.getElem_toArray, List.getElem_cons_succ, List.getElem_cons_zero, List.setIfInBounds_toArray, List.set_cons_succ, List.set_cons_zero]
  refine wpAnyH_take (i := 8) (v := undef) rfl (by kernel_rfl) (by kernel_rfl) (by kernel_rfl) (fun _ _ _ h => h) (Or.inr ⟨by rfl, rfl⟩) (by assumption) ?_
  simp only [Act.put, List.getElem_toArray, List.getElem_cons_succ, List.getElem_cons_zero, List.setIfInBounds_toArray, List.set_cons_succ, List.set_cons_zero]
  refine wpAnyH_take (i := 9) (v := undef) rfl (by kernel_rfl) (by kernel_rfl) (by kernel_rfl) (fun _ _ _ h => h) (Or.inr ⟨by rfl, rfl⟩) (by assumption) ?_
  simp only [Act.put, List.getElem_toArray, List.getElem_cons_succ, List.getElem_cons_zero, List.setIfInBounds_toArray, List.set_cons_succ, List.set_cons_zero]
  refine wpAnyH_take (i := 10) (v := undef) rfl (by kernel_rfl) (by kernel_rfl) (by kernel_rfl) (fun _ _ _ h => h) (Or.inr ⟨by rfl, rfl⟩) (by assumption) ?_
  simp only [Act.put, List.getElem_toArray, List.getElem_cons_succ, List.getElem_cons_zero, List.setIfInBounds_toArray, List.set_cons_succ, List.set_cons_zero]
  refine wpAnyH_take (i := 11) (v := undef) rfl (by kernel_rfl) (by kernel_rfl) (by kernel_rfl) (fun _ _ _ h => h) (Or.inr ⟨by rfl, rfl⟩) (by assumption) ?_
  simp only [Act.put, List.getElem_toArray, List.getElem_cons_succ, List.getElem_cons_zero, List.setIfInBounds_toArray, List.set_cons_succ, List.set_cons_zero]
  refine wpAnyH_take (i := 12) (v := undef) rfl (by kernel_rfl) (by kernel_rfl) (by kernel_rfl) (fun _ _ _ h => h) (Or.inr ⟨by rfl, rfl⟩) (by assumption) ?_
  simp only [Act.put, List.getElem_toArray, List.getElem_cons_succ, List.getElem_cons_zero, List.setIfInBounds_toArray, List.set_cons_succ, List.set_cons_zero]
  refine wpAnyH_take (i := 13) (v := undef) rfl (by kernel_rfl) (by kernel_rfl) (by kernel_rfl) (fun _ _ _ h => h) (Or.inr ⟨by rfl, rfl⟩) (by assumption) ?_
  simp only [Act.put, List.getElem_toArray, List.getElem_cons_succ, List.getElem_cons_zero, List.setIfInBounds_toArray, List.set_cons_succ, List.set_cons_zero]
  refine wpAnyH_take (i := 14) (v := undef) rfl (by kernel_rfl) (by kernel_rfl) (by kernel_rfl) (fun _ _ _ h => h) (Or.inr ⟨by rfl, rfl⟩) (by assumption) ?_
  simp only [Act.put, List.getElem_toArray, List.getElem_cons_succ, List.getElem_cons_zero, List.setIfInBounds_toArray, List.set_cons_succ, List.set_cons_zero]
  refine wpAnyH_take (i := 15) (v := undef) rfl (by kernel_rfl) (by kernel_rfl) (by kernel_rfl) (fun _ _ _ h => h) (Or.inr ⟨by rfl, rfl⟩) (by assumption) ?_
  simp only [Act.put, List.getElem_toArray, List.getElem_cons_succ, List.getElem_cons_zero, List.setIfInBounds_toArray, List.set_cons_succ, List.set_cons_zero]
  refine wpAnyH_take (i := 16) (v := undef) rfl (by kernel_rfl) (by kernel_rfl) (by kernel_rfl) (fun _ _ _ h => h) (Or.inr ⟨by rfl, rfl⟩) (by assumption) ?_
  simp only [Act.put, List.getElem_toArray, List.getElem_cons_succ, List.getElem_cons_zero, List.setIfInBounds_toArray, List.set_cons_succ, List.set_cons_zero]
  refine wpAnyH_take (i := 17) (v := undef) rfl (by kernel_rfl) (by kernel_rfl) (by kernel_rfl) (fun _ _ _ h => h) (Or.inr ⟨by rfl, rfl⟩) (by assumption) ?_
  simp only [Act.put, List.getElem_toArray, List.getElem_cons_succ, List.getElem_cons_zero, List.setIfInBounds_toArray, List.set_cons_succ, List.set_cons_zero]
  refine wpAnyH_take (i := 18) (v := undef) rfl (by kernel_rfl) (by kernel_rfl) (by kernel_rfl) (fun _ _ _ h => h) (Or.inr ⟨by rfl, rfl⟩) (by assumption) ?_
  simp only [Act.put, List.getElem_toArray, List.getElem_cons_succ, List.getElem_cons_zero, List.setIfInBounds_toArray, List.set_cons_succ, List.set_cons_zero]
  refine wpAnyH_take (i := 19) (v := undef) rfl (by kernel_rfl) (by kernel_rfl) (by kernel_rfl) (fun _ _ _ h => h) (Or.inr ⟨by rfl, rfl⟩) (by assumption) ?_
  simp only [Act.put, List.getElem_toArray, List.getElem_cons_succ, List.getElem_cons_zero, List.setIfInBounds_toArray, List.set_cons_succ, List.set_cons_zero]
  refine wpAnyH_take (i := 20) (v := undef) rfl (by kernel_rfl) (by kernel_rfl) (by kernel_rfl) (fun _ _ _ h => h) (Or.inr ⟨by rfl, rfl⟩) (by assumption) ?_
  simp only [Act.put, List.getElem_toArray, List.getElem_cons_succ, List.getElem_cons_zero, List.setIfInBounds_toArray, List.set_cons_succ, List.set_cons_zero]
  refine wpAnyH_take (i := 21) (v := undef) rfl (by kernel_rfl) (by kernel_rfl) (by kernel_rfl) (fun _ _ _ h => h) (Or.inr ⟨by rfl, rfl⟩) (by assumption) ?_
  simp only [Act.put, List.getElem_toArray, List.getElem_cons_succ, List.getElem_cons_zero, List.setIfInBounds_toArray, List.set_cons_succ, List.set_cons_zero]
  refine wpAnyH_take (i := 22) (v := undef) rfl (by kernel_rfl) (by kernel_rfl) (by kernel_rfl) (fun _ _ _ h => h) (Or.inr ⟨by rfl, rfl⟩) (by assumption) ?_
  simp only [Act.put, List.getElem_toArray, List.getElem_cons_succ, List.getElem_cons_zero, List.setIfInBounds_toArray, List.set_cons_succ, List.set_cons_zero]
  refine wpAnyH_take (i := 23) (v := undef) rfl (by kernel_rfl) (by kernel_rfl) (by kernel_rfl) (fun _ _ _ h => h) (Or.inr ⟨by rfl, rfl⟩) (by assumption) ?_
  simp only [Act.put, List.getElem_toArray, List.getElem_cons_succ, List.getElem_cons_zero, List.setIfInBounds_toArray, List.set_cons_succ, List.set_cons_zero]
  refine wpAnyH_take (i := 24) (v := undef) rfl (by kernel_rfl) (by kernel_rfl) (by kernel_rfl) (fun _ _ _ h => h) (Or.inr ⟨by rfl, rfl⟩) (by assumption) ?_
  simp only [Act.put, List.getElem_toArray, List.getElem_cons_succ, List.getElem_cons_zero, List.setIfInBounds_toArray, List.set_cons_succ, List.set_cons_zero]
  refine wpAnyH_take (i := 25) (v := undef) rfl (by kernel_rfl) (by kernel_rfl) (by kernel_rfl) (fun _ _ _ h => h) (Or.inr ⟨by rfl, rfl⟩) (by assumption) ?_
  simp only [Act.put, List.getElem_toArray, List.getElem_cons_succ, List.getElem_cons_zero, List.setIfInBounds_toArray, List.set_cons_succ, List.set_cons_zero]
  refine wpAnyH_take (i := 26) (v := ?_) rfl (by kernel_rfl) (by kernel_rfl) (by kernel_rfl) (fun _ _ _ h => h) (Or.inl ⟨by rfl, ?_⟩) (by assumption) ?_
  rotate_left
  · (intro w' hSw; (try dsimp only at hSw); go_simp; (try (with_reducible rfl)))
  simp only [Act.put, List.getElem_toArray, List.getElem_cons_succ, List.getElem_cons_zero, List.setIfInBounds_toArray, List.set_cons_succ, List.set_cons_zero]
  refine wpAnyH_take (i := 27) (v := ?_) rfl (by kernel_rfl) (by kernel_rfl) (by kernel_rfl) (fun _ _ _ h => h) (Or.inl ⟨by rfl, ?_⟩) (by assumption) ?_
  rotate_left
  · (intro w' hSw; (try dsimp only at hSw); go_simp; (try (with_reducible rfl)))
  simp only [Act.put, List.getElem_toArray, List.getElem_cons_succ, List.getElem_cons_zero, List.setIfInBounds_toArray, List.set_cons_succ, List.set_cons_zero]
  refine wpAnyH_take (i := 28) (v := ?_) rfl (by kernel_rfl) (by kernel_rfl) (by kernel_rfl) (fun _ _ _ h => h) (Or.inl ⟨by rfl, ?_⟩) (by assumption) ?_
  rotate_left
  · (intro w' hSw; (try dsimp only at hSw); go_simp; (try (with_reducible rfl)))
  simp only [Act.put, List.getElem_toArray, List.getElem_cons_succ, List.getElem_cons_zero, List.setIfInBounds_toArray, List.set_cons_succ, List.set_cons_zero]
  refine wpAnyH_done (by kernel_rfl) ?_ _
  have hb : Below V5.heap.size V5 V5.drew := (Below.refl _ _).drew
  have HB := Lib.hid (keep_below B hb)
  clear hb
  go_wp2
  go_ret
  exact ⟨rfl, HB.out⟩

set_option maxRecDepth 100000 in
set_option maxHeartbeats 8000000 in
theorem txt_eq_fits_other (t n : Int) (sa sb xa : ByteArray) (hla : xa.size ≤ 60) (hl : xa.size + xa.size ≤ 40)
    (wa qa : ByteArray)
    (h4 : ¬ t = 4)
    (SA : ∀ w, Calls Tryd.prog 11 #[.agg #[.int .i64 t, .int .i64 n, .string sa]] w fun e w' => e = .returned (.agg #[.int .i64 t, .int .i64 n, .string xa]) ∧ Below w.heap.size w w')
    (SB : ∀ w, Calls Tryd.prog 11 #[.agg #[.int .i64 t, .int .i64 n, .string sb]] w fun e w' => e = .returned (.agg #[.int .i64 t, .int .i64 n, .string xa]) ∧ Below w.heap.size w w')
    (MA : ∀ w, Calls Tryd.prog 25 #[.agg #[.int .i64 t, .int .i64 n, .string xa]] w fun e w' => e = .returned (.bool true) ∧ Below w.heap.size w w')
    (BE : ∀ w, Calls Tryd.prog 13 #[.string { data := #[61, 61] }, .agg #[.int .i64 t, .int .i64 n, .string xa], .agg #[.int .i64 t, .int .i64 n, .string xa]] w fun e w' => e = .returned (.tuple #[.agg #[.int .i64 2, .int .i64 1, .string { data := #[] }], .int .i64 0]) ∧ Below w.heap.size w w')
    (BN : ∀ w, Calls Tryd.prog 13 #[.string { data := #[33, 61] }, .agg #[.int .i64 t, .int .i64 n, .string xa], .agg #[.int .i64 t, .int .i64 n, .string xa]] w fun e w' => e = .returned (.tuple #[.agg #[.int .i64 2, .int .i64 0, .string { data := #[] }], .int .i64 0]) ∧ Below w.heap.size w w')
    (WA : ∀ w, TabW w → Calls Tryd.prog 27 #[.agg #[.int .i64 t, .int .i64 n, .string xa]] w fun e w' => e = .returned (.string wa) ∧ Below w.heap.size w w')
    (QA : ∀ w, TabW w → Calls Tryd.prog 29 #[.agg #[.int .i64 t, .int .i64 n, .string xa]] w fun e w' => e = .returned (.string qa) ∧ Below w.heap.size w w')
    (w : World) (hT : TabW w) :
    Calls Tryd.prog 6 #[.agg #[.int .i64 t, .int .i64 n, .string sa], .agg #[.int .i64 t, .int .i64 n, .string sb]] w fun e w' => e = .returned (.bool true) ∧ Below w.heap.size w w' := by
  have SA' := Lib.hid SA
  have SB' := Lib.hid SB
  have MA' := Lib.hid MA
  have BE' := Lib.hid BE
  have BN' := Lib.hid BN
  have WA' := Lib.hid WA
  have QA' := Lib.hid QA
  have HT := Lib.hid hT
  clear hT SA SB MA BE BN WA QA
  have h4' : (t == 4) = false := by simpa using h4
  clear h4
  go_enter Tryd.func6, Tryd.ntmps6
  go_wp2_with fail
  refine (shown_any _).mono ?_
  rintro e w1 ⟨rfl, hb1⟩
  have p0 : w1.cell? ⟨w.heap.size, 0, none⟩ = some (.int .i64 t) := (hb1.cell (p := ⟨w.heap.size, 0, none⟩) (by simp; omega)).trans (by simp)
  have p1 : w1.cell? ⟨w.heap.size, 1, none⟩ = some (.int .i64 n) := (hb1.cell (p := ⟨w.heap.size, 1, none⟩) (by simp; omega)).trans (by simp)
  have p2 : w1.cell? ⟨w.heap.size, 2, none⟩ = some (.string sa) := (hb1.cell (p := ⟨w.heap.size, 2, none⟩) (by simp; omega)).trans (by simp)
  have q0 : w1.cell? ⟨w.heap.size + 1, 0, none⟩ = some (.int .i64 t) := (hb1.cell (p := ⟨w.heap.size + 1, 0, none⟩) (by simp)).trans (by simp)
  have q1 : w1.cell? ⟨w.heap.size + 1, 1, none⟩ = some (.int .i64 n) := (hb1.cell (p := ⟨w.heap.size + 1, 1, none⟩) (by simp)).trans (by simp)
  have q2 : w1.cell? ⟨w.heap.size + 1, 2, none⟩ = some (.string sb) := (hb1.cell (p := ⟨w.heap.size + 1, 2, none⟩) (by simp)).trans (by simp)
  have f0 : ∀ k, w1.frozen? ⟨w.heap.size, k, none⟩ = false := fun k => (hb1.frozen (p := ⟨w.heap.size, k, none⟩) (by simp; omega)).trans (by simp)
  have g0 : ∀ k, w1.frozen? ⟨w.heap.size + 1, k, none⟩ = false := fun k => (hb1.frozen (p := ⟨w.heap.size + 1, k, none⟩) (by simp)).trans (by simp)
  have hz : w.heap.size + 1 < w1.heap.size := by have := hb1.size; simp at this; omega
  have B : Below w.heap.size w w1 := (((Below.refl _ _).alloc (Nat.le_refl _) _).alloc (by simp) _).trans (hb1.mono (by simp; omega))
  obtain ⟨P, hP⟩ : ∃ P : Nat, P = w.heap.size := ⟨_, rfl⟩
  obtain ⟨Q, hQ⟩ : ∃ Q : Nat, Q = w.heap.size + 1 := ⟨_, rfl⟩
  clear hb1
  rw [← hQ] at q0 q1 q2 g0 hz
  rw [← hP] at p0 p1 p2 f0
  have hPQ : P < Q := by omega
  have hwP : w.heap.size ≤ P := by omega
  have hwQ : w.heap.size ≤ Q := by omega
  rw [← hQ, ← hP]
  clear hP hQ
  go_wp2_with fail
  refine (SA'.out _).mono ?_
  rintro e w2 ⟨rfl, hb⟩
  replace p0 := keep_cell hb (by omega) p0
  replace p1 := keep_cell hb (by omega) p1
  replace p2 := keep_cell hb (by omega) p2
  replace q0 := keep_cell hb hz q0
  replace q1 := keep_cell hb hz q1
  replace q2 := keep_cell hb hz q2
  replace f0 := fun k => ((bcell hb).2 P k (by omega)).trans (f0 k)
  replace g0 := fun k => ((bcell hb).2 Q k hz).trans (g0 k)
  replace hz := Nat.lt_of_lt_of_le hz hb.size
  replace B := B.trans (hb.mono B.size)
  clear hb
  have hPQ1 : ¬ P = Q := by omega
  have hPQ2 : ¬ Q = P := by omega
  go_wp2_with fail
  have np0 : (((w2.setCell ⟨P, 0, none⟩ (.int .i64 t)).setCell ⟨P, 1, none⟩ (.int .i64 n)).setCell ⟨P, 2, none⟩ (.string xa)).cell? ⟨P, 0, none⟩ = some (.int .i64 t) := by (go_simp; done)
  have np1 : (((w2.setCell ⟨P, 0, none⟩ (.int .i64 t)).setCell ⟨P, 1, none⟩ (.int .i64 n)).setCell ⟨P, 2, none⟩ (.string xa)).cell? ⟨P, 1, none⟩ = some (.int .i64 n) := by (go_simp; done)
  have np2 : (((w2.setCell ⟨P, 0, none⟩ (.int .i64 t)).setCell ⟨P, 1, none⟩ (.int .i64 n)).setCell ⟨P, 2, none⟩ (.string xa)).cell? ⟨P, 2, none⟩ = some (.string xa) := by (go_simp; done)
  have nq0 : (((w2.setCell ⟨P, 0, none⟩ (.int .i64 t)).setCell ⟨P, 1, none⟩ (.int .i64 n)).setCell ⟨P, 2, none⟩ (.string xa)).cell? ⟨Q, 0, none⟩ = some (.int .i64 t) := by (go_simp; done)
  have nq1 : (((w2.setCell ⟨P, 0, none⟩ (.int .i64 t)).setCell ⟨P, 1, none⟩ (.int .i64 n)).setCell ⟨P, 2, none⟩ (.string xa)).cell? ⟨Q, 1, none⟩ = some (.int .i64 n) := by (go_simp; done)
  have nq2 : (((w2.setCell ⟨P, 0, none⟩ (.int .i64 t)).setCell ⟨P, 1, none⟩ (.int .i64 n)).setCell ⟨P, 2, none⟩ (.string xa)).cell? ⟨Q, 2, none⟩ = some (.string sb) := by (go_simp; done)
  have nf0 : ∀ k, (((w2.setCell ⟨P, 0, none⟩ (.int .i64 t)).setCell ⟨P, 1, none⟩ (.int .i64 n)).setCell ⟨P, 2, none⟩ (.string xa)).frozen? ⟨P, k, none⟩ = false := fun k => by simp [f0]
  have ng0 : ∀ k, (((w2.setCell ⟨P, 0, none⟩ (.int .i64 t)).setCell ⟨P, 1, none⟩ (.int .i64 n)).setCell ⟨P, 2, none⟩ (.string xa)).frozen? ⟨Q, k, none⟩ = false := fun k => by simp [g0]
  have nhz : Q < (((w2.setCell ⟨P, 0, none⟩ (.int .i64 t)).setCell ⟨P, 1, none⟩ (.int .i64 n)).setCell ⟨P, 2, none⟩ (.string xa)).heap.size := by simpa using hz
  have nB : Below w.heap.size w (((w2.setCell ⟨P, 0, none⟩ (.int .i64 t)).setCell ⟨P, 1, none⟩ (.int .i64 n)).setCell ⟨P, 2, none⟩ (.string xa)) := ((B.setCell (p := ⟨P, 0, none⟩) hwP _).setCell (p := ⟨P, 1, none⟩) hwP _).setCell (p := ⟨P, 2, none⟩) hwP _
  refine (SB'.out _).mono ?_
  rintro e w3 ⟨rfl, hb⟩
  replace p0 := keep_cell hb (Nat.lt_trans hPQ nhz) np0
  replace p1 := keep_cell hb (Nat.lt_trans hPQ nhz) np1
  replace p2 := keep_cell hb (Nat.lt_trans hPQ nhz) np2
  replace q0 := keep_cell hb nhz nq0
  replace q1 := keep_cell hb nhz nq1
  replace q2 := keep_cell hb nhz nq2
  replace f0 := fun k => ((bcell hb).2 P k (Nat.lt_trans hPQ nhz)).trans (nf0 k)
  replace g0 := fun k => ((bcell hb).2 Q k nhz).trans (ng0 k)
  replace B := nB.trans (hb.mono nB.size)
  replace hz := Nat.lt_of_lt_of_le nhz hb.size
  clear hb nB nhz nf0 ng0 np0 np1 np2 nq0 nq1 nq2
  go_wp2_with fail
  have np0 : (((w3.setCell ⟨Q, 0, none⟩ (.int .i64 t)).setCell ⟨Q, 1, none⟩ (.int .i64 n)).setCell ⟨Q, 2, none⟩ (.string xa)).cell? ⟨P, 0, none⟩ = some (.int .i64 t) := by (go_simp; done)
  have np1 : (((w3.setCell ⟨Q, 0, none⟩ (.int .i64 t)).setCell ⟨Q, 1, none⟩ (.int .i64 n)).setCell ⟨Q, 2, none⟩ (.string xa)).cell? ⟨P, 1, none⟩ = some (.int .i64 n) := by (go_simp; done)
  have np2 : (((w3.setCell ⟨Q, 0, none⟩ (.int .i64 t)).setCell ⟨Q, 1, none⟩ (.int .i64 n)).setCell ⟨Q, 2, none⟩ (.string xa)).cell? ⟨P, 2, none⟩ = some (.string xa) := by (go_simp; done)
  have nq0 : (((w3.setCell ⟨Q, 0, none⟩ (.int .i64 t)).setCell ⟨Q, 1, none⟩ (.int .i64 n)).setCell ⟨Q, 2, none⟩ (.string xa)).cell? ⟨Q, 0, none⟩ = some (.int .i64 t) := by (go_simp; done)
  have nq1 : (((w3.setCell ⟨Q, 0, none⟩ (.int .i64 t)).setCell ⟨Q, 1, none⟩ (.int .i64 n)).setCell ⟨Q, 2, none⟩ (.string xa)).cell? ⟨Q, 1, none⟩ = some (.int .i64 n) := by (go_simp; done)
  have nq2 : (((w3.setCell ⟨Q, 0, none⟩ (.int .i64 t)).setCell ⟨Q, 1, none⟩ (.int .i64 n)).setCell ⟨Q, 2, none⟩ (.string xa)).cell? ⟨Q, 2, none⟩ = some (.string xa) := by (go_simp; done)
  have nf0 : ∀ k, (((w3.setCell ⟨Q, 0, none⟩ (.int .i64 t)).setCell ⟨Q, 1, none⟩ (.int .i64 n)).setCell ⟨Q, 2, none⟩ (.string xa)).frozen? ⟨P, k, none⟩ = false := fun k => by simp [f0]
  have ng0 : ∀ k, (((w3.setCell ⟨Q, 0, none⟩ (.int .i64 t)).setCell ⟨Q, 1, none⟩ (.int .i64 n)).setCell ⟨Q, 2, none⟩ (.string xa)).frozen? ⟨Q, k, none⟩ = false := fun k => by simp [g0]
  have nhz : Q < (((w3.setCell ⟨Q, 0, none⟩ (.int .i64 t)).setCell ⟨Q, 1, none⟩ (.int .i64 n)).setCell ⟨Q, 2, none⟩ (.string xa)).heap.size := by simpa using hz
  have nB : Below w.heap.size w (((w3.setCell ⟨Q, 0, none⟩ (.int .i64 t)).setCell ⟨Q, 1, none⟩ (.int .i64 n)).setCell ⟨Q, 2, none⟩ (.string xa)) := ((B.setCell (p := ⟨Q, 0, none⟩) hwQ _).setCell (p := ⟨Q, 1, none⟩) hwQ _).setCell (p := ⟨Q, 2, none⟩) hwQ _
  refine (text_any _ _).mono ?_
  rintro e w4 ⟨rfl, hb⟩
  have d10 := keep_cell hb (Nat.lt_trans hPQ nhz) np0
  have d11 := keep_cell hb (Nat.lt_trans hPQ nhz) np1
  have d12 := keep_cell hb (Nat.lt_trans hPQ nhz) np2
  have d20 := keep_cell hb nhz nq0
  have d21 := keep_cell hb nhz nq1
  have d22 := keep_cell hb nhz nq2
  replace B := nB.trans (hb.mono nB.size)
  have y2 := Nat.lt_of_lt_of_le nhz hb.size
  have y1 : P < w4.heap.size := Nat.lt_trans hPQ y2
  clear hb nB nhz nf0 ng0 np0 np1 np2 nq0 nq1 nq2 p0 p1 p2 q0 q1 q2 f0 g0 hz
  go_wp2_with fail
  refine (text_any _ _).mono ?_
  rintro e x11 ⟨rfl, hb⟩
  replace d10 := up_cell hb y1 d10
  replace d11 := up_cell hb y1 d11
  replace d12 := up_cell hb y1 d12
  replace y1 := up_size hb (Nat.le_of_lt y1)
  replace d20 := up_cell hb y2 d20
  replace d21 := up_cell hb y2 d21
  replace d22 := up_cell hb y2 d22
  replace y2 := up_size hb (Nat.le_of_lt y2)
  obtain ⟨d30, d31, d32⟩ := new_cell hb
  have y3 : w4.heap.size < x11.heap.size := up_size hb (Nat.le_refl _)
  replace B := up_below hb B
  clear hb
  go_wp2_with fail
  refine (bin_plus xa xa hla hla hl _).mono ?_
  rintro e x12 ⟨rfl, hb⟩
  replace d10 := up_cell hb y1 d10
  replace d11 := up_cell hb y1 d11
  replace d12 := up_cell hb y1 d12
  replace y1 := up_size hb (Nat.le_of_lt y1)
  replace d20 := up_cell hb y2 d20
  replace d21 := up_cell hb y2 d21
  replace d22 := up_cell hb y2 d22
  replace y2 := up_size hb (Nat.le_of_lt y2)
  replace d30 := up_cell hb y3 d30
  replace d31 := up_cell hb y3 d31
  replace d32 := up_cell hb y3 d32
  replace y3 := up_size hb (Nat.le_of_lt y3)
  obtain ⟨d40, d41, d42⟩ := new_cell hb
  have y4 : x11.heap.size < x12.heap.size := up_size hb (Nat.le_refl _)
  replace B := up_below hb B
  clear hb
  have hI : (xa.size : Int) + (xa.size : Int) ≤ 40 := by omega
  have hI1 : (xa.size : Int) ≤ 60 := by omega
  go_wp2_with fail
  refine (MA'.out _).mono ?_
  rintro e x13 ⟨rfl, hb⟩
  replace d10 := up_cell hb y1 d10
  replace d11 := up_cell hb y1 d11
  replace d12 := up_cell hb y1 d12
  replace y1 := up_size hb (Nat.le_of_lt y1)
  replace d20 := up_cell hb y2 d20
  replace d21 := up_cell hb y2 d21
  replace d22 := up_cell hb y2 d22
  replace y2 := up_size hb (Nat.le_of_lt y2)
  replace d30 := up_cell hb y3 d30
  replace d31 := up_cell hb y3 d31
  replace d32 := up_cell hb y3 d32
  replace y3 := up_size hb (Nat.le_of_lt y3)
  replace d40 := up_cell hb y4 d40
  replace d41 := up_cell hb y4 d41
  replace d42 := up_cell hb y4 d42
  replace y4 := up_size hb (Nat.le_of_lt y4)
  obtain ⟨d50, d51, d52⟩ := new_cell hb
  have y5 : x12.heap.size < x13.heap.size := up_size hb (Nat.le_refl _)
  replace B := up_below hb B
  clear hb
  clear hI
  go_wp2_with fail
  refine (MA'.out _).mono ?_
  rintro e x14 ⟨rfl, hb⟩
  replace d10 := keep_cell hb y1 d10
  replace d11 := keep_cell hb y1 d11
  replace d12 := keep_cell hb y1 d12
  replace y1 := Nat.lt_of_lt_of_le y1 hb.size
  replace d20 := keep_cell hb y2 d20
  replace d21 := keep_cell hb y2 d21
  replace d22 := keep_cell hb y2 d22
  replace y2 := Nat.lt_of_lt_of_le y2 hb.size
  replace d30 := keep_cell hb y3 d30
  replace d31 := keep_cell hb y3 d31
  replace d32 := keep_cell hb y3 d32
  replace y3 := Nat.lt_of_lt_of_le y3 hb.size
  replace d40 := keep_cell hb y4 d40
  replace d41 := keep_cell hb y4 d41
  replace d42 := keep_cell hb y4 d42
  replace y4 := Nat.lt_of_lt_of_le y4 hb.size
  replace d50 := keep_cell hb y5 d50
  replace d51 := keep_cell hb y5 d51
  replace d52 := keep_cell hb y5 d52
  replace y5 := Nat.lt_of_lt_of_le y5 hb.size
  replace B := keep_below B hb
  clear hb
  go_wp2_with fail
  refine (BE'.out _).mono ?_
  rintro e x15 ⟨rfl, hb⟩
  replace d10 := keep_cell hb y1 d10
  replace d11 := keep_cell hb y1 d11
  replace d12 := keep_cell hb y1 d12
  replace y1 := Nat.lt_of_lt_of_le y1 hb.size
  replace d20 := keep_cell hb y2 d20
  replace d21 := keep_cell hb y2 d21
  replace d22 := keep_cell hb y2 d22
  replace y2 := Nat.lt_of_lt_of_le y2 hb.size
  replace d30 := keep_cell hb y3 d30
  replace d31 := keep_cell hb y3 d31
  replace d32 := keep_cell hb y3 d32
  replace y3 := Nat.lt_of_lt_of_le y3 hb.size
  replace d40 := keep_cell hb y4 d40
  replace d41 := keep_cell hb y4 d41
  replace d42 := keep_cell hb y4 d42
  replace y4 := Nat.lt_of_lt_of_le y4 hb.size
  replace d50 := keep_cell hb y5 d50
  replace d51 := keep_cell hb y5 d51
  replace d52 := keep_cell hb y5 d52
  replace y5 := Nat.lt_of_lt_of_le y5 hb.size
  replace B := keep_below B hb
  clear hb
  go_wp2_with fail
  refine (BN'.out _).mono ?_
  rintro e x16 ⟨rfl, hb⟩
  replace d10 := up_cell hb y1 d10
  replace d11 := up_cell hb y1 d11
  replace d12 := up_cell hb y1 d12
  replace y1 := up_size hb (Nat.le_of_lt y1)
  replace d20 := up_cell hb y2 d20
  replace d21 := up_cell hb y2 d21
  replace d22 := up_cell hb y2 d22
  replace y2 := up_size hb (Nat.le_of_lt y2)
  replace d30 := up_cell hb y3 d30
  replace d31 := up_cell hb y3 d31
  replace d32 := up_cell hb y3 d32
  replace y3 := up_size hb (Nat.le_of_lt y3)
  replace d40 := up_cell hb y4 d40
  replace d41 := up_cell hb y4 d41
  replace d42 := up_cell hb y4 d42
  replace y4 := up_size hb (Nat.le_of_lt y4)
  replace d50 := up_cell hb y5 d50
  replace d51 := up_cell hb y5 d51
  replace d52 := up_cell hb y5 d52
  replace y5 := up_size hb (Nat.le_of_lt y5)
  obtain ⟨d60, d61, d62⟩ := new_cell hb
  have y6 : x15.heap.size < x16.heap.size := up_size hb (Nat.le_refl _)
  replace B := up_below hb B
  clear hb
  go_upto_region 13 with fail
  obtain ⟨W16, hW⟩ : ∃ W : World, W = x16.alloc (.cells #[.int .i64 2, .int .i64 0, .string { data := #[] }] 23) := ⟨_, rfl⟩
  replace d10 : W16.cell? ⟨P, 0, none⟩ = _ := (congrArg (fun W : World => W.cell? ⟨P, 0, none⟩) hW).trans (at_alloc y1 d10)
  replace d11 : W16.cell? ⟨P, 1, none⟩ = _ := (congrArg (fun W : World => W.cell? ⟨P, 1, none⟩) hW).trans (at_alloc y1 d11)
  replace d12 : W16.cell? ⟨P, 2, none⟩ = _ := (congrArg (fun W : World => W.cell? ⟨P, 2, none⟩) hW).trans (at_alloc y1 d12)
  replace y1 : P < W16.heap.size := by rw [hW]; simp; omega
  replace d20 : W16.cell? ⟨Q, 0, none⟩ = _ := (congrArg (fun W : World => W.cell? ⟨Q, 0, none⟩) hW).trans (at_alloc y2 d20)
  replace d21 : W16.cell? ⟨Q, 1, none⟩ = _ := (congrArg (fun W : World => W.cell? ⟨Q, 1, none⟩) hW).trans (at_alloc y2 d21)
  replace d22 : W16.cell? ⟨Q, 2, none⟩ = _ := (congrArg (fun W : World => W.cell? ⟨Q, 2, none⟩) hW).trans (at_alloc y2 d22)
  replace y2 : Q < W16.heap.size := by rw [hW]; simp; omega
  replace d30 : W16.cell? ⟨w4.heap.size, 0, none⟩ = _ := (congrArg (fun W : World => W.cell? ⟨w4.heap.size, 0, none⟩) hW).trans (at_alloc y3 d30)
  replace d31 : W16.cell? ⟨w4.heap.size, 1, none⟩ = _ := (congrArg (fun W : World => W.cell? ⟨w4.heap.size, 1, none⟩) hW).trans (at_alloc y3 d31)
  replace d32 : W16.cell? ⟨w4.heap.size, 2, none⟩ = _ := (congrArg (fun W : World => W.cell? ⟨w4.heap.size, 2, none⟩) hW).trans (at_alloc y3 d32)
  replace y3 : w4.heap.size < W16.heap.size := by rw [hW]; simp; omega
  replace d40 : W16.cell? ⟨x11.heap.size, 0, none⟩ = _ := (congrArg (fun W : World => W.cell? ⟨x11.heap.size, 0, none⟩) hW).trans (at_alloc y4 d40)
  replace d41 : W16.cell? ⟨x11.heap.size, 1, none⟩ = _ := (congrArg (fun W : World => W.cell? ⟨x11.heap.size, 1, none⟩) hW).trans (at_alloc y4 d41)
  replace d42 : W16.cell? ⟨x11.heap.size, 2, none⟩ = _ := (congrArg (fun W : World => W.cell? ⟨x11.heap.size, 2, none⟩) hW).trans (at_alloc y4 d42)
  replace y4 : x11.heap.size < W16.heap.size := by rw [hW]; simp; omega
  replace d50 : W16.cell? ⟨x12.heap.size, 0, none⟩ = _ := (congrArg (fun W : World => W.cell? ⟨x12.heap.size, 0, none⟩) hW).trans (at_alloc y5 d50)
  replace d51 : W16.cell? ⟨x12.heap.size, 1, none⟩ = _ := (congrArg (fun W : World => W.cell? ⟨x12.heap.size, 1, none⟩) hW).trans (at_alloc y5 d51)
  replace d52 : W16.cell? ⟨x12.heap.size, 2, none⟩ = _ := (congrArg (fun W : World => W.cell? ⟨x12.heap.size, 2, none⟩) hW).trans (at_alloc y5 d52)
  replace y5 : x12.heap.size < W16.heap.size := by rw [hW]; simp; omega
  replace d60 : W16.cell? ⟨x15.heap.size, 0, none⟩ = _ := (congrArg (fun W : World => W.cell? ⟨x15.heap.size, 0, none⟩) hW).trans (at_alloc y6 d60)
  replace d61 : W16.cell? ⟨x15.heap.size, 1, none⟩ = _ := (congrArg (fun W : World => W.cell? ⟨x15.heap.size, 1, none⟩) hW).trans (at_alloc y6 d61)
  replace d62 : W16.cell? ⟨x15.heap.size, 2, none⟩ = _ := (congrArg (fun W : World => W.cell? ⟨x15.heap.size, 2, none⟩) hW).trans (at_alloc y6 d62)
  replace y6 : x15.heap.size < W16.heap.size := by rw [hW]; simp; omega
  obtain ⟨d70, d71, d72⟩ : W16.cell? ⟨x16.heap.size, 0, none⟩ = some (.int .i64 2) ∧ W16.cell? ⟨x16.heap.size, 1, none⟩ = some (.int .i64 0) ∧ W16.cell? ⟨x16.heap.size, 2, none⟩ = some (.string { data := #[] }) := by rw [hW]; exact at_new
  have y7 : x16.heap.size < W16.heap.size := by rw [hW]; simp
  replace B : Below w.heap.size w W16 := by rw [hW]; exact B.alloc B.size _
  rw [← hW]
  clear hW
  clear d30 d31 d32 y3
  clear d40 d41 d42 y4
  clear d50 d51 d52 y5
  have mk : ∀ w' : World, Below W16.heap.size W16 w' → (w'.cell? ⟨P, 0, none⟩ = some (.int .i64 t) ∧ w'.cell? ⟨P, 1, none⟩ = some (.int .i64 n) ∧ w'.cell? ⟨P, 2, none⟩ = some (.string xa) ∧ w'.cell? ⟨Q, 0, none⟩ = some (.int .i64 t) ∧ w'.cell? ⟨Q, 1, none⟩ = some (.int .i64 n) ∧ w'.cell? ⟨Q, 2, none⟩ = some (.string xa) ∧ w'.cell? ⟨x15.heap.size, 0, none⟩ = some (.int .i64 2) ∧ w'.cell? ⟨x15.heap.size, 1, none⟩ = some (.int .i64 1) ∧ w'.cell? ⟨x15.heap.size, 2, none⟩ = some (.string { data := #[] }) ∧ w'.cell? ⟨x16.heap.size, 0, none⟩ = some (.int .i64 2) ∧ w'.cell? ⟨x16.heap.size, 1, none⟩ = some (.int .i64 0) ∧ w'.cell? ⟨x16.heap.size, 2, none⟩ = some (.string { data := #[] }) ∧ Below W16.heap.size W16 w') := fun w' h => ⟨keep_cell h y1 d10, keep_cell h y1 d11, keep_cell h y1 d12, keep_cell h y2 d20, keep_cell h y2 d21, keep_cell h y2 d22, keep_cell h y6 d60, keep_cell h y6 d61, keep_cell h y6 d62, keep_cell h y7 d70, keep_cell h y7 d71, keep_cell h y7 d72, h⟩
  have MK := Lib.hid mk
  clear mk
  refine wp_region_held_drew (S := fun w' => w'.cell? ⟨P, 0, none⟩ = some (.int .i64 t) ∧ w'.cell? ⟨P, 1, none⟩ = some (.int .i64 n) ∧ w'.cell? ⟨P, 2, none⟩ = some (.string xa) ∧ w'.cell? ⟨Q, 0, none⟩ = some (.int .i64 t) ∧ w'.cell? ⟨Q, 1, none⟩ = some (.int .i64 n) ∧ w'.cell? ⟨Q, 2, none⟩ = some (.string xa) ∧ w'.cell? ⟨x15.heap.size, 0, none⟩ = some (.int .i64 2) ∧ w'.cell? ⟨x15.heap.size, 1, none⟩ = some (.int .i64 1) ∧ w'.cell? ⟨x15.heap.size, 2, none⟩ = some (.string { data := #[] }) ∧ w'.cell? ⟨x16.heap.size, 0, none⟩ = some (.int .i64 2) ∧ w'.cell? ⟨x16.heap.size, 1, none⟩ = some (.int .i64 0) ∧ w'.cell? ⟨x16.heap.size, 2, none⟩ = some (.string { data := #[] }) ∧ Below W16.heap.size W16 w') (by kernel_rfl) (MK.out _ (Below.drew (Below.refl _ _))) (fun hHeld => ?_)
  refine wpAnyH_take (i := 0) (v := ?_) rfl (by kernel_rfl) (by kernel_rfl) (by kernel_rfl) (fun _ _ _ h => h) (Or.inl ⟨by rfl, ?_⟩) (by assumption) ?_
  rotate_left
  · (intro w' hSw; (try dsimp only at hSw); go_simp; (try (with_reducible rfl)))
  simp only [Act.put, List.getElem_toArray, List.getElem_cons_zero, List.setIfInBounds_toArray, List.set_cons_succ, List.set_cons_zero]
  refine wpAnyH_take (i := 1) (v := ?_) rfl (by kernel_rfl) (by kernel_rfl) (by kernel_rfl) (fun _ _ _ h => h) (Or.inl ⟨by rfl, ?_⟩) (by assumption) ?_
  rotate_left
  · (intro w' hSw; (try dsimp only at hSw); go_simp; (try (with_reducible rfl)))
  simp only [Act.put, List.getElem_toArray, List.getElem_cons_succ, List.getElem_cons_zero, List.setIfInBounds_toArray, List.set_cons_succ, List.set_cons_zero]
  refine wpAnyH_take (i := 2) (v := ?_) rfl (by kernel_rfl) (by kernel_rfl) (by kernel_rfl) (fun _ _ _ h => h) (Or.inl ⟨by rfl, ?_⟩) (by assumption) ?_
  rotate_left
  · (intro w' hSw; (try dsimp only at hSw); go_simp; (try (with_reducible rfl)))
  simp only [Act.put, List.getElem_toArray, List.getElem_cons_succ, List.getElem_cons_zero, List.setIfInBounds_toArray, List.set_cons_succ, List.set_cons_zero]
  refine wpAnyH_take (i := 3) (v := ?_) rfl (by kernel_rfl) (by kernel_rfl) (by kernel_rfl) (fun _ _ _ h => h) (Or.inl ⟨by rfl, ?_⟩) (by assumption) ?_
  rotate_left
  · (intro w' hSw; (try dsimp only at hSw); go_simp; (try (with_reducible rfl)))
  simp only [Act.put, List.getElem_toArray, List.getElem_cons_succ, List.getElem_cons_zero, List.setIfInBounds_toArray, List.set_cons_succ, List.set_cons_zero]
  refine wpAnyH_take (i := 4) (v := ?_) rfl (by kernel_rfl) (by kernel_rfl) (by kernel_rfl) (fun _ _ _ h => h) (Or.inl ⟨by rfl, ?_⟩) (by assumption) ?_
  rotate_left
  · (intro w' hSw; (try dsimp only at hSw); go_simp; (try (with_reducible rfl)))
  simp only [Act.put, List.getElem_toArray, List.getElem_cons_succ, List.getElem_cons_zero, List.setIfInBounds_toArray, List.set_cons_succ, List.set_cons_zero]
  refine wpAnyH_take (i := 5) (v := ?_) rfl (by kernel_rfl) (by kernel_rfl) (by kernel_rfl) (fun _ _ _ h => h) (Or.inl ⟨by rfl, ?_⟩) (by assumption) ?_
  rotate_left
  · (intro w' hSw; (try dsimp only at hSw); go_simp; (try (with_reducible rfl)))
  simp only [Act.put, List.getElem_toArray, List.getElem_cons_succ, List.getElem_cons_zero, List.setIfInBounds_toArray, List.set_cons_succ, List.set_cons_zero]
  refine wpAnyH_take (i := 6) (v := ?_) rfl (by kernel_rfl) (by kernel_rfl) (by kernel_rfl) (fun _ _ _ h => h) (Or.inl ⟨by rfl, ?_⟩) (by assumption) ?_
  rotate_left
  · (intro w' hSw; (try dsimp only at hSw); go_simp; (try (with_reducible rfl)))
  simp only [Act.put, List.getElem_toArray, List.getElem_cons_succ, List.getElem_cons_zero, List.setIfInBounds_toArray, List.set_cons_succ, List.set_cons_zero]
  refine wpAnyH_take (i := 7) (v := ?_) rfl (by kernel_rfl) (by kernel_rfl) (by kernel_rfl) (fun _ _ _ h => h) (Or.inl ⟨by rfl, ?_⟩) (by assumption) ?_
  rotate_left
  · (intro w' hSw; (try dsimp only at hSw); go_simp; (try (with_reducible rfl)))
  simp only [Act.put, List.getElem_toArray, List.getElem_cons_succ, List.getElem_cons_zero, List.setIfInBounds_toArray, List.set_cons_succ, List.set_cons_zero]
  refine wpAnyH_take (i := 8) (v := ?_) rfl (by kernel_rfl) (by kernel_rfl) (by kernel_rfl) (fun _ _ _ h => h) (Or.inl ⟨by rfl, ?_⟩) (by assumption) ?_
  rotate_left
  · (intro w' hSw; (try dsimp only at hSw); go_simp; (try (with_reducible rfl)))
  simp only [Act.put, List.getElem_toArray, List.getElem_cons_succ, List.getElem_cons_zero, List.setIfInBounds_toArray, List.set_cons_succ, List.set_cons_zero]
  refine wpAnyH_ready (rs := [9]) (by kernel_rfl) (by simp) ?_
  refine AllReadyH.cons rfl (fun K hK => ?_) AllReadyH.nil
  go_simp
  (go_at_call 23; refine (logic.sign_not0 _).mono ?_; rintro e w4 ⟨rfl, hb4⟩; (try go_simp))
  refine hK.out _ _ ?_ (fun hHeld => ?_)
  · (try dsimp only); exact MK.out _ (keep_below hHeld.2.2.2.2.2.2.2.2.2.2.2.2 hb4)
  clear hK K
  refine wpAnyH_take (i := 10) (v := ?_) rfl (by kernel_rfl) (by kernel_rfl) (by kernel_rfl) (fun _ _ _ h => h) (Or.inl ⟨by rfl, ?_⟩) (by assumption) ?_
  rotate_left
  · (intro w' hSw; (try dsimp only at hSw); go_simp; (try (with_reducible rfl)))
  simp only [Act.put, List.getElem_toArray, List.getElem_cons_succ, List.getElem_cons_zero, List.setIfInBounds_toArray, List.set_cons_succ, List.set_cons_zero]
  refine wpAnyH_take (i := 11) (v := ?_) rfl (by kernel_rfl) (by kernel_rfl) (by kernel_rfl) (fun _ _ _ h => h) (Or.inl ⟨by rfl, ?_⟩) (by assumption) ?_
  rotate_left
  · (intro w' hSw; (try dsimp only at hSw); go_simp; (try (with_reducible rfl)))
  simp only [Act.put, List.getElem_toArray, List.getElem_cons_succ, List.getElem_cons_zero, List.setIfInBounds_toArray, List.set_cons_succ, List.set_cons_zero]
  refine wpAnyH_take (i := 12) (v := ?_) rfl (by kernel_rfl) (by kernel_rfl) (by kernel_rfl) (fun _ _ _ h => h) (Or.inl ⟨by rfl, ?_⟩) (by assumption) ?_
  rotate_left
  · (intro w' hSw; (try dsimp only at hSw); go_simp; (try (with_reducible rfl)))
  simp only [Act.put, List.getElem_toArray, List.getElem_cons_succ, List.getElem_cons_zero, List.setIfInBounds_toArray, List.set_cons_succ, List.set_cons_zero]
  refine wpAnyH_take (i := 13) (v := ?_) rfl (by kernel_rfl) (by kernel_rfl) (by kernel_rfl) (fun _ _ _ h => h) (Or.inl ⟨by rfl, ?_⟩) (by assumption) ?_
  rotate_left
  · (intro w' hSw; (try dsimp only at hSw); go_simp; (try (with_reducible rfl)))
  simp only [Act.put, List.getElem_toArray, List.getElem_cons_succ, List.getElem_cons_zero, List.setIfInBounds_toArray, List.set_cons_succ, List.set_cons_zero]
  refine wpAnyH_take (i := 14) (v := ?_) rfl (by kernel_rfl) (by kernel_rfl) (by kernel_rfl) (fun _ _ _ h => h) (Or.inl ⟨by rfl, ?_⟩) (by assumption) ?_
  rotate_left
  · (intro w' hSw; (try dsimp only at hSw); go_simp; (try (with_reducible rfl)))
  simp only [Act.put, List.getElem_toArray, List.getElem_cons_succ, List.getElem_cons_zero, List.setIfInBounds_toArray, List.set_cons_succ, List.set_cons_zero]
  refine wpAnyH_take (i := 15) (v := ?_) rfl (by kernel_rfl) (by kernel_rfl) (by kernel_rfl) (fun _ _ _ h => h) (Or.inl ⟨by rfl, ?_⟩) (by assumption) ?_
  rotate_left
  · (intro w' hSw; (try dsimp only at hSw); go_simp; (try (with_reducible rfl)))
  simp only [Act.put, List.getElem_toArray, List.getElem_cons_succ, List.getElem_cons_zero, List.setIfInBounds_toArray, List.set_cons_succ, List.set_cons_zero]
  refine wpAnyH_take (i := 16) (v := ?_) rfl (by kernel_rfl) (by kernel_rfl) (by kernel_rfl) (fun _ _ _ h => h) (Or.inl ⟨by rfl, ?_⟩) (by assumption) ?_
  rotate_left
  · (intro w' hSw; (try dsimp only at hSw); go_simp; (try (with_reducible rfl)))
  simp only [Act.put, List.getElem_toArray, List.getElem_cons_succ, List.getElem_cons_zero, List.setIfInBounds_toArray, List.set_cons_succ, List.set_cons_zero]
  refine wpAnyH_take (i := 17) (v := ?_) rfl (by kernel_rfl) (by kernel_rfl) (by kernel_rfl) (fun _ _ _ h => h) (Or.inl ⟨by rfl, ?_⟩) (by assumption) ?_
  rotate_left
  · (intro w' hSw; (try dsimp only at hSw); go_simp; (try (with_reducible rfl)))
  simp only [Act.put, List.getElem_toArray, List.getElem_cons_succ, List.getElem_cons_zero, List.setIfInBounds_toArray, List.set_cons_succ, List.set_cons_zero]
  refine wpAnyH_take (i := 18) (v := ?_) rfl (by kernel_rfl) (by kernel_rfl) (by kernel_rfl) (fun _ _ _ h => h) (Or.inl ⟨by rfl, ?_⟩) (by assumption) ?_
  rotate_left
  · (intro w' hSw; (try dsimp only at hSw); go_simp; (try (with_reducible rfl)))
  simp only [Act.put, List.getElem_toArray, List.getElem_cons_succ, List.getElem_cons_zero, List.setIfInBounds_toArray, List.set_cons_succ, List.set_cons_zero]
  refine wpAnyH_take (i := 19) (v := ?_) rfl (by kernel_rfl) (by kernel_rfl) (by kernel_rfl) (fun _ _ _ h => h) (Or.inl ⟨by rfl, ?_⟩) (by assumption) ?_
  rotate_left
  · (intro w' hSw; (try dsimp only at hSw); go_simp; (try (with_reducible rfl)))
  simp only [Act.put, List.getElem_toArray, List.getElem_cons_succ, List.getElem_cons_zero, List.setIfInBounds_toArray, List.set_cons_succ, List.set_cons_zero]
  refine wpAnyH_take (i := 20) (v := ?_) rfl (by kernel_rfl) (by kernel_rfl) (by kernel_rfl) (fun _ _ _ h => h) (Or.inl ⟨by rfl, ?_⟩) (by assumption) ?_
  rotate_left
  · (intro w' hSw; (try dsimp only at hSw); go_simp; (try (with_reducible rfl)))
  simp only [Act.put, List.getElem_toArray, List.getElem_cons_succ, List.getElem_cons_zero, List.setIfInBounds_toArray, List.set_cons_succ, List.set_cons_zero]
  refine wpAnyH_done (by kernel_rfl) ?_ _
  have hb : Below W16.heap.size W16 w4 := (by assumption : w4.cell? ⟨P, 0, none⟩ = some (.int .i64 t) ∧ w4.cell? ⟨P, 1, none⟩ = some (.int .i64 n) ∧ w4.cell? ⟨P, 2, none⟩ = some (.string xa) ∧ w4.cell? ⟨Q, 0, none⟩ = some (.int .i64 t) ∧ w4.cell? ⟨Q, 1, none⟩ = some (.int .i64 n) ∧ w4.cell? ⟨Q, 2, none⟩ = some (.string xa) ∧ w4.cell? ⟨x15.heap.size, 0, none⟩ = some (.int .i64 2) ∧ w4.cell? ⟨x15.heap.size, 1, none⟩ = some (.int .i64 1) ∧ w4.cell? ⟨x15.heap.size, 2, none⟩ = some (.string { data := #[] }) ∧ w4.cell? ⟨x16.heap.size, 0, none⟩ = some (.int .i64 2) ∧ w4.cell? ⟨x16.heap.size, 1, none⟩ = some (.int .i64 0) ∧ w4.cell? ⟨x16.heap.size, 2, none⟩ = some (.string { data := #[] }) ∧ Below W16.heap.size W16 w4).2.2.2.2.2.2.2.2.2.2.2.2
  replace d10 := keep_cell hb y1 d10
  replace d11 := keep_cell hb y1 d11
  replace d12 := keep_cell hb y1 d12
  replace y1 := Nat.lt_of_lt_of_le y1 hb.size
  replace d20 := keep_cell hb y2 d20
  replace d21 := keep_cell hb y2 d21
  replace d22 := keep_cell hb y2 d22
  replace y2 := Nat.lt_of_lt_of_le y2 hb.size
  replace d60 := keep_cell hb y6 d60
  replace d61 := keep_cell hb y6 d61
  replace d62 := keep_cell hb y6 d62
  replace y6 := Nat.lt_of_lt_of_le y6 hb.size
  replace d70 := keep_cell hb y7 d70
  replace d71 := keep_cell hb y7 d71
  replace d72 := keep_cell hb y7 d72
  replace y7 := Nat.lt_of_lt_of_le y7 hb.size
  replace B := keep_below B hb
  clear hb
  clear MK
  obtain ⟨V5, hV5⟩ : ∃ V5 : World, V5 = w4 := ⟨_, rfl⟩
  subst hV5
  go_upto_region 15 with fail
  have HTV : Hid (TabW V5) := HT.out.below B HT.out.2
  clear d60 d61 d62 y6
  clear d70 d71 d72 y7
  have mk : ∀ w' : World, Below V5.heap.size V5 w' → (w'.cell? ⟨P, 0, none⟩ = some (.int .i64 t) ∧ w'.cell? ⟨P, 1, none⟩ = some (.int .i64 n) ∧ w'.cell? ⟨P, 2, none⟩ = some (.string xa) ∧ w'.cell? ⟨Q, 0, none⟩ = some (.int .i64 t) ∧ w'.cell? ⟨Q, 1, none⟩ = some (.int .i64 n) ∧ w'.cell? ⟨Q, 2, none⟩ = some (.string xa) ∧ Below V5.heap.size V5 w') := fun w' h => ⟨keep_cell h y1 d10, keep_cell h y1 d11, keep_cell h y1 d12, keep_cell h y2 d20, keep_cell h y2 d21, keep_cell h y2 d22, h⟩
  have MK := Lib.hid mk
  clear mk
  refine wp_region_held_drew (S := fun w' => w'.cell? ⟨P, 0, none⟩ = some (.int .i64 t) ∧ w'.cell? ⟨P, 1, none⟩ = some (.int .i64 n) ∧ w'.cell? ⟨P, 2, none⟩ = some (.string xa) ∧ w'.cell? ⟨Q, 0, none⟩ = some (.int .i64 t) ∧ w'.cell? ⟨Q, 1, none⟩ = some (.int .i64 n) ∧ w'.cell? ⟨Q, 2, none⟩ = some (.string xa) ∧ Below V5.heap.size V5 w') (by kernel_rfl) (MK.out _ (Below.drew (Below.refl _ _))) (fun hHeld => ?_)
  refine wpAnyH_take (i := 0) (v := ?_) rfl (by kernel_rfl) (by kernel_rfl) (by kernel_rfl) (fun _ _ _ h => h) (Or.inl ⟨by rfl, ?_⟩) (by assumption) ?_
  rotate_left
  · (intro w' hSw; (try dsimp only at hSw); go_simp; (try (with_reducible rfl)))
  simp only [Act.put, List.getElem_toArray, List.getElem_cons_zero, List.setIfInBounds_toArray, List.set_cons_succ, List.set_cons_zero]
  refine wpAnyH_take (i := 1) (v := ?_) rfl (by kernel_rfl) (by kernel_rfl) (by kernel_rfl) (fun _ _ _ h => h) (Or.inl ⟨by rfl, ?_⟩) (by assumption) ?_
  rotate_left
  · (intro w' hSw; (try dsimp only at hSw); go_simp; (try (with_reducible rfl)))
  simp only [Act.put, List.getElem_toArray, List.getElem_cons_succ, List.getElem_cons_zero, List.setIfInBounds_toArray, List.set_cons_succ, List.set_cons_zero]
  refine wpAnyH_take (i := 2) (v := ?_) rfl (by kernel_rfl) (by kernel_rfl) (by kernel_rfl) (fun _ _ _ h => h) (Or.inl ⟨by rfl, ?_⟩) (by assumption) ?_
  rotate_left
  · (intro w' hSw; (try dsimp only at hSw); go_simp; (try (with_reducible rfl)))
  simp only [Act.put, List.getElem_toArray, List.getElem_cons_succ, List.getElem_cons_zero, List.setIfInBounds_toArray, List.set_cons_succ, List.set_cons_zero]
  refine wpAnyH_take (i := 3) (v := ?_) rfl (by kernel_rfl) (by kernel_rfl) (by kernel_rfl) (fun _ _ _ h => h) (Or.inl ⟨by rfl, ?_⟩) (by assumption) ?_
  rotate_left
  · (intro w' hSw; (try dsimp only at hSw); go_simp; (try (with_reducible rfl)))
  simp only [Act.put, List.getElem_toArray, List.getElem_cons_succ, List.getElem_cons_zero, List.setIfInBounds_toArray, List.set_cons_succ, List.set_cons_zero]
  refine wpAnyH_take (i := 4) (v := ?_) rfl (by kernel_rfl) (by kernel_rfl) (by kernel_rfl) (fun _ _ _ h => h) (Or.inl ⟨by rfl, ?_⟩) (by assumption) ?_
  rotate_left
  · (intro w' hSw; (try dsimp only at hSw); go_simp; (try (with_reducible rfl)))
  simp only [Act.put, List.getElem_toArray, List.getElem_cons_succ, List.getElem_cons_zero, List.setIfInBounds_toArray, List.set_cons_succ, List.set_cons_zero]
  refine wpAnyH_take (i := 5) (v := ?_) rfl (by kernel_rfl) (by kernel_rfl) (by kernel_rfl) (fun _ _ _ h => h) (Or.inl ⟨by rfl, ?_⟩) (by assumption) ?_
  rotate_left
  · (intro w' hSw; (try dsimp only at hSw); go_simp; (try (with_reducible rfl)))
  simp only [Act.put, List.getElem_toArray, List.getElem_cons_succ, List.getElem_cons_zero, List.setIfInBounds_toArray, List.set_cons_succ, List.set_cons_zero]
  refine wpAnyH_take (i := 6) (v := ?_) rfl (by kernel_rfl) (by kernel_rfl) (by kernel_rfl) (fun _ _ _ h => h) (Or.inl ⟨by rfl, ?_⟩) (by assumption) ?_
  rotate_left
  · (intro w' hSw; (try dsimp only at hSw); go_simp; (try (with_reducible rfl)))
  simp only [Act.put, List.getElem_toArray, List.getElem_cons_succ, List.getElem_cons_zero, List.setIfInBounds_toArray, List.set_cons_succ, List.set_cons_zero]
  refine wpAnyH_take (i := 8) (v := ?_) rfl (by kernel_rfl) (by kernel_rfl) (by kernel_rfl) (fun _ _ _ h => h) (Or.inl ⟨by rfl, ?_⟩) (by assumption) ?_
  rotate_left
  · (intro w' hSw; (try dsimp only at hSw); go_simp; (try (with_reducible rfl)))
  simp only [Act.put, List.getElem_toArray, List.getElem_cons_succ, List.getElem_cons_zero, List.setIfInBounds_toArray, List.set_cons_succ, List.set_cons_zero]
  refine wpAnyH_take (i := 11) (v := ?_) rfl (by kernel_rfl) (by kernel_rfl) (by kernel_rfl) (fun _ _ _ h => h) (Or.inl ⟨by rfl, ?_⟩) (by assumption) ?_
  rotate_left
  · (intro w' hSw; (try dsimp only at hSw); go_simp; (try (with_reducible rfl)))
  simp only [Act.put, List.getElem_toArray, List.getElem_cons_succ, List.getElem_cons_zero, List.setIfInBounds_toArray, List.set_cons_succ, List.set_cons_zero]
  refine wpAnyH_take (i := 12) (v := ?_) rfl (by kernel_rfl) (by kernel_rfl) (by kernel_rfl) (fun _ _ _ h => h) (Or.inl ⟨by rfl, ?_⟩) (by assumption) ?_
  rotate_left
  · (intro w' hSw; (try dsimp only at hSw); go_simp; (try (with_reducible rfl)))
  simp only [Act.put, List.getElem_toArray, List.getElem_cons_succ, List.getElem_cons_zero, List.setIfInBounds_toArray, List.set_cons_succ, List.set_cons_zero]
  refine wpAnyH_take (i := 13) (v := ?_) rfl (by kernel_rfl) (by kernel_rfl) (by kernel_rfl) (fun _ _ _ h => h) (Or.inl ⟨by rfl, ?_⟩) (by assumption) ?_
  rotate_left
  · (intro w' hSw; (try dsimp only at hSw); go_simp; (try (with_reducible rfl)))
  simp only [Act.put, List.getElem_toArray, List.getElem_cons_succ, List.getElem_cons_zero, List.setIfInBounds_toArray, List.set_cons_succ, List.set_cons_zero]
  refine wpAnyH_ready (rs := [7]) (by kernel_rfl) (by simp) ?_
  refine AllReadyH.cons rfl (fun K hK => ?_) AllReadyH.nil
  go_simp
  (go_at_call 27; refine (WA'.out _ (HTV.out.below hHeld.2.2.2.2.2.2 HTV.out.2)).mono ?_; rintro e w4 ⟨rfl, hb4⟩; (try go_simp))
  refine hK.out _ _ ?_ (fun hHeld => ?_)
  · (try dsimp only); exact MK.out _ (keep_below hHeld.2.2.2.2.2.2 hb4)
  clear hK K
  refine wpAnyH_ready (rs := [9]) (by kernel_rfl) (by simp) ?_
  refine AllReadyH.cons rfl (fun K hK => ?_) AllReadyH.nil
  go_simp
  (go_at_call 27; refine (WA'.out _ (HTV.out.below hHeld.2.2.2.2.2.2 HTV.out.2)).mono ?_; rintro e w4 ⟨rfl, hb4⟩; (try go_simp))
  refine hK.out _ _ ?_ (fun hHeld => ?_)
  · (try dsimp only); exact MK.out _ (keep_below hHeld.2.2.2.2.2.2 hb4)
  clear hK K
  refine wpAnyH_take (i := 10) (v := ?_) rfl (by kernel_rfl) (by kernel_rfl) (by kernel_rfl) (fun _ _ _ h => h) (Or.inl ⟨by rfl, ?_⟩) (by assumption) ?_
  rotate_left
  · (intro w' hSw; (try dsimp only at hSw); go_simp; (try (with_reducible rfl)))
  simp only [Act.put, List.getElem_toArray, List.getElem_cons_succ, List.getElem_cons_zero, List.setIfInBounds_toArray, List.set_cons_succ, List.set_cons_zero]
  refine wpAnyH_take (i := 14) (v := ?_) rfl (by kernel_rfl) (by kernel_rfl) (by kernel_rfl) (fun _ _ _ h => h) (Or.inl ⟨by rfl, ?_⟩) (by assumption) ?_
  rotate_left
  · (intro w' hSw; (try dsimp only at hSw); go_simp; (try (with_reducible rfl)))
  simp only [Act.put, List.getElem_toArray, List.getElem_cons_succ, List.getElem_cons_zero, List.setIfInBounds_toArray, List.set_cons_succ, List.set_cons_zero]
  refine wpAnyH_take (i := 15) (v := ?_) rfl (by kernel_rfl) (by kernel_rfl) (by kernel_rfl) (fun _ _ _ h => h) (Or.inl ⟨by rfl, ?_⟩) (by assumption) ?_
  rotate_left
  · (intro w' hSw; (try dsimp only at hSw); go_simp; (try (with_reducible rfl)))
  simp only [Act.put, List.getElem_toArray, List.getElem_cons_succ, List.getElem_cons_zero, List.setIfInBounds_toArray, List.set_cons_succ, List.set_cons_zero]
  refine wpAnyH_take (i := 16) (v := ?_) rfl (by kernel_rfl) (by kernel_rfl) (by kernel_rfl) (fun _ _ _ h => h) (Or.inl ⟨by rfl, ?_⟩) (by assumption) ?_
  rotate_left
  · (intro w' hSw; (try dsimp only at hSw); go_simp; (try (with_reducible rfl)))
  simp only [Act.put, List.getElem_toArray, List.getElem_cons_succ, List.getElem_cons_zero, List.setIfInBounds_toArray, List.set_cons_succ, List.set_cons_zero]
  refine wpAnyH_take (i := 18) (v := ?_) rfl (by kernel_rfl) (by kernel_rfl) (by kernel_rfl) (fun _ _ _ h => h) (Or.inl ⟨by rfl, ?_⟩) (by assumption) ?_
  rotate_left
  · (intro w' hSw; (try dsimp only at hSw); go_simp; (try (with_reducible rfl)))
  simp only [Act.put, List.getElem_toArray, List.getElem_cons_succ, List.getElem_cons_zero, List.setIfInBounds_toArray, List.set_cons_succ, List.set_cons_zero]
  refine wpAnyH_take (i := 21) (v := ?_) rfl (by kernel_rfl) (by kernel_rfl) (by kernel_rfl) (fun _ _ _ h => h) (Or.inl ⟨by rfl, ?_⟩) (by assumption) ?_
  rotate_left
  · (intro w' hSw; (try dsimp only at hSw); go_simp; (try (with_reducible rfl)))
  simp only [Act.put, List.getElem_toArray, List.getElem_cons_succ, List.getElem_cons_zero, List.setIfInBounds_toArray, List.set_cons_succ, List.set_cons_zero]
  refine wpAnyH_take (i := 22) (v := ?_) rfl (by kernel_rfl) (by kernel_rfl) (by kernel_rfl) (fun _ _ _ h => h) (Or.inl ⟨by rfl, ?_⟩) (by assumption) ?_
  rotate_left
  · (intro w' hSw; (try dsimp only at hSw); go_simp; (try (with_reducible rfl)))
  simp only [Act.put, List.getElem_toArray, List.getElem_cons_succ, List.getElem_cons_zero, List.setIfInBounds_toArray, List.set_cons_succ, List.set_cons_zero]
  refine wpAnyH_take (i := 23) (v := ?_) rfl (by kernel_rfl) (by kernel_rfl) (by kernel_rfl) (fun _ _ _ h => h) (Or.inl ⟨by rfl, ?_⟩) (by assumption) ?_
  rotate_left
  · (intro w' hSw; (try dsimp only at hSw); go_simp; (try (with_reducible rfl)))
  simp only [Act.put, List.getElem_toArray, List.getElem_cons_succ, List.getElem_cons_zero, List.setIfInBounds_toArray, List.set_cons_succ, List.set_cons_zero]
  refine wpAnyH_ready (rs := [17]) (by kernel_rfl) (by simp) ?_
  refine AllReadyH.cons rfl (fun K hK => ?_) AllReadyH.nil
  go_simp
  (go_at_call 29; refine (QA'.out _ (HTV.out.below hHeld.2.2.2.2.2.2 HTV.out.2)).mono ?_; rintro e w4 ⟨rfl, hb4⟩; (try go_simp))
  refine hK.out _ _ ?_ (fun hHeld => ?_)
  · (try dsimp only); exact MK.out _ (keep_below hHeld.2.2.2.2.2.2 hb4)
  clear hK K
  refine wpAnyH_ready (rs := [19]) (by kernel_rfl) (by simp) ?_
  refine AllReadyH.cons rfl (fun K hK => ?_) AllReadyH.nil
  go_simp
  (go_at_call 29; refine (QA'.out _ (HTV.out.below hHeld.2.2.2.2.2.2 HTV.out.2)).mono ?_; rintro e w4 ⟨rfl, hb4⟩; (try go_simp))
  refine hK.out _ _ ?_ (fun hHeld => ?_)
  · (try dsimp only); exact MK.out _ (keep_below hHeld.2.2.2.2.2.2 hb4)
  clear hK K
  refine wpAnyH_take (i := 20) (v := ?_) rfl (by kernel_rfl) (by kernel_rfl) (by kernel_rfl) (fun _ _ _ h => h) (Or.inl ⟨by rfl, ?_⟩) (by assumption) ?_
  rotate_left
  · (intro w' hSw; (try dsimp only at hSw); go_simp; (try (with_reducible rfl)))
  simp only [Act.put, List.getElem_toArray, List.getElem_cons_succ, List.getElem_cons_zero, List.setIfInBounds_toArray, List.set_cons_succ, List.set_cons_zero]
  refine wpAnyH_take (i := 24) (v := ?_) rfl (by kernel_rfl) (by kernel_rfl) (by kernel_rfl) (fun _ _ _ h => h) (Or.inl ⟨by rfl, ?_⟩) (by assumption) ?_
  rotate_left
  · (intro w' hSw; (try dsimp only at hSw); go_simp; (try (with_reducible rfl)))
  simp only [Act.put, List.getElem_toArray, List.getElem_cons_succ, List.getElem_cons_zero, List.setIfInBounds_toArray, List.set_cons_succ, List.set_cons_zero]
  refine wpAnyH_take (i := 25) (v := ?_) rfl (by kernel_rfl) (by kernel_rfl) (by kernel_rfl) (fun _ _ _ h => h) (Or.inl ⟨by rfl, ?_⟩) (by assumption) ?_
  rotate_left
  · (intro w' hSw; (try dsimp only at hSw); go_simp; (try (with_reducible rfl)))
  simp only [Act.put, List.getElem_toArray, List.getElem_cons_succ, List.getElem_cons_zero, List.setIfInBounds_toArray, List.set_cons_succ, List.set_cons_zero]
  refine wpAnyH_take (i := 26) (v := ?_) rfl (by kernel_rfl) (by kernel_rfl) (by kernel_rfl) (fun _ _ _ h => h) (Or.inl ⟨by rfl, ?_⟩) (by assumption) ?_
  rotate_left
  · (intro w' hSw; (try dsimp only at hSw); go_simp; (try (with_reducible rfl)))
  simp only [Act.put, List.getElem_toArray, List.getElem_cons_succ, List.getElem_cons_zero, List.setIfInBounds_toArray, List.set_cons_succ, List.set_cons_zero]
  refine wpAnyH_take (i := 27) (v := ?_) rfl (by kernel_rfl) (by kernel_rfl) (by kernel_rfl) (fun _ _ _ h => h) (Or.inl ⟨by rfl, ?_⟩) (by assumption) ?_
  rotate_left
  · (intro w' hSw; (try dsimp only at hSw); go_simp; (try (with_reducible rfl)))
  simp only [Act.put, List.getElem_toArray, List.getElem_cons_succ, List.getElem_cons_zero, List.setIfInBounds_toArray, List.set_cons_succ, List.set_cons_zero]
  refine wpAnyH_take (i := 28) (v := ?_) rfl (by kernel_rfl) (by kernel_rfl) (by kernel_rfl) (fun _ _ _ h => h) (Or.inl ⟨by rfl, ?_⟩) (by assumption) ?_
  rotate_left
  · (intro w' hSw; (try dsimp only at hSw); go_simp; (try (with_reducible rfl)))
  simp only [Act.put, List.getElem_toArray, List.getElem_cons_succ, List.getElem_cons_zero, List.setIfInBounds_toArray, List.set_cons_succ, List.set_cons_zero]
  refine wpAnyH_done (by kernel_rfl) ?_ _
  have hb : Below V5.heap.size V5 w4 := (by assumption : w4.cell? ⟨P, 0, none⟩ = some (.int .i64 t) ∧ w4.cell? ⟨P, 1, none⟩ = some (.int .i64 n) ∧ w4.cell? ⟨P, 2, none⟩ = some (.string xa) ∧ w4.cell? ⟨Q, 0, none⟩ = some (.int .i64 t) ∧ w4.cell? ⟨Q, 1, none⟩ = some (.int .i64 n) ∧ w4.cell? ⟨Q, 2, none⟩ = some (.string xa) ∧ Below V5.heap.size V5 w4).2.2.2.2.2.2
  have HB := Lib.hid (keep_below B hb)
  clear hb
  go_wp2
  go_ret
  exact ⟨rfl, HB.out⟩

set_option maxRecDepth 100000 in
set_option maxHeartbeats 8000000 in
theorem txt_eq_long_list (t n : Int) (sa sb xa : ByteArray) (hla : xa.size ≤ 60) (hl : 40 < xa.size + xa.size)
    (h4 : t = 4)
    (SA : ∀ w, Calls Tryd.prog 11 #[.agg #[.int .i64 t, .int .i64 n, .string sa]] w fun e w' => e = .returned (.agg #[.int .i64 t, .int .i64 n, .string xa]) ∧ Below w.heap.size w w')
    (SB : ∀ w, Calls Tryd.prog 11 #[.agg #[.int .i64 t, .int .i64 n, .string sb]] w fun e w' => e = .returned (.agg #[.int .i64 t, .int .i64 n, .string xa]) ∧ Below w.heap.size w w')
    (MA : ∀ w, Calls Tryd.prog 25 #[.agg #[.int .i64 t, .int .i64 n, .string xa]] w fun e w' => e = .returned (.bool true) ∧ Below w.heap.size w w')
    (BE : ∀ w, Calls Tryd.prog 13 #[.string { data := #[61, 61] }, .agg #[.int .i64 t, .int .i64 n, .string xa], .agg #[.int .i64 t, .int .i64 n, .string xa]] w fun e w' => e = .returned (.tuple #[.agg #[.int .i64 2, .int .i64 1, .string { data := #[] }], .int .i64 0]) ∧ Below w.heap.size w w')
    (BN : ∀ w, Calls Tryd.prog 13 #[.string { data := #[33, 61] }, .agg #[.int .i64 t, .int .i64 n, .string xa], .agg #[.int .i64 t, .int .i64 n, .string xa]] w fun e w' => e = .returned (.tuple #[.agg #[.int .i64 2, .int .i64 0, .string { data := #[] }], .int .i64 0]) ∧ Below w.heap.size w w')
    (w : World) (hT : TabW w) :
    Calls Tryd.prog 6 #[.agg #[.int .i64 t, .int .i64 n, .string sa], .agg #[.int .i64 t, .int .i64 n, .string sb]] w fun e w' => e = .returned (.bool true) ∧ Below w.heap.size w w' := by
  have SA' := Lib.hid SA
  have SB' := Lib.hid SB
  have MA' := Lib.hid MA
  have BE' := Lib.hid BE
  have BN' := Lib.hid BN
  have HT := Lib.hid hT
  clear hT SA SB MA BE BN
  subst h4
  go_enter Tryd.func6, Tryd.ntmps6
  go_wp2_with fail
  refine (shown_any _).mono ?_
  rintro e w1 ⟨rfl, hb1⟩
  have p0 : w1.cell? ⟨w.heap.size, 0, none⟩ = some (.int .i64 4) := (hb1.cell (p := ⟨w.heap.size, 0, none⟩) (by simp; omega)).trans (by simp)
  have p1 : w1.cell? ⟨w.heap.size, 1, none⟩ = some (.int .i64 n) := (hb1.cell (p := ⟨w.heap.size, 1, none⟩) (by simp; omega)).trans (by simp)
  have p2 : w1.cell? ⟨w.heap.size, 2, none⟩ = some (.string sa) := (hb1.cell (p := ⟨w.heap.size, 2, none⟩) (by simp; omega)).trans (by simp)
  have q0 : w1.cell? ⟨w.heap.size + 1, 0, none⟩ = some (.int .i64 4) := (hb1.cell (p := ⟨w.heap.size + 1, 0, none⟩) (by simp)).trans (by simp)
  have q1 : w1.cell? ⟨w.heap.size + 1, 1, none⟩ = some (.int .i64 n) := (hb1.cell (p := ⟨w.heap.size + 1, 1, none⟩) (by simp)).trans (by simp)
  have q2 : w1.cell? ⟨w.heap.size + 1, 2, none⟩ = some (.string sb) := (hb1.cell (p := ⟨w.heap.size + 1, 2, none⟩) (by simp)).trans (by simp)
  have f0 : ∀ k, w1.frozen? ⟨w.heap.size, k, none⟩ = false := fun k => (hb1.frozen (p := ⟨w.heap.size, k, none⟩) (by simp; omega)).trans (by simp)
  have g0 : ∀ k, w1.frozen? ⟨w.heap.size + 1, k, none⟩ = false := fun k => (hb1.frozen (p := ⟨w.heap.size + 1, k, none⟩) (by simp)).trans (by simp)
  have hz : w.heap.size + 1 < w1.heap.size := by have := hb1.size; simp at this; omega
  have B : Below w.heap.size w w1 := (((Below.refl _ _).alloc (Nat.le_refl _) _).alloc (by simp) _).trans (hb1.mono (by simp; omega))
  obtain ⟨P, hP⟩ : ∃ P : Nat, P = w.heap.size := ⟨_, rfl⟩
  obtain ⟨Q, hQ⟩ : ∃ Q : Nat, Q = w.heap.size + 1 := ⟨_, rfl⟩
  clear hb1
  rw [← hQ] at q0 q1 q2 g0 hz
  rw [← hP] at p0 p1 p2 f0
  have hPQ : P < Q := by omega
  have hwP : w.heap.size ≤ P := by omega
  have hwQ : w.heap.size ≤ Q := by omega
  rw [← hQ, ← hP]
  clear hP hQ
  go_wp2_with fail
  refine (SA'.out _).mono ?_
  rintro e w2 ⟨rfl, hb⟩
  replace p0 := keep_cell hb (by omega) p0
  replace p1 := keep_cell hb (by omega) p1
  replace p2 := keep_cell hb (by omega) p2
  replace q0 := keep_cell hb hz q0
  replace q1 := keep_cell hb hz q1
  replace q2 := keep_cell hb hz q2
  replace f0 := fun k => ((bcell hb).2 P k (by omega)).trans (f0 k)
  replace g0 := fun k => ((bcell hb).2 Q k hz).trans (g0 k)
  replace hz := Nat.lt_of_lt_of_le hz hb.size
  replace B := B.trans (hb.mono B.size)
  clear hb
  have hPQ1 : ¬ P = Q := by omega
  have hPQ2 : ¬ Q = P := by omega
  go_wp2_with fail
  have np0 : (((w2.setCell ⟨P, 0, none⟩ (.int .i64 4)).setCell ⟨P, 1, none⟩ (.int .i64 n)).setCell ⟨P, 2, none⟩ (.string xa)).cell? ⟨P, 0, none⟩ = some (.int .i64 4) := by (go_simp; done)
  have np1 : (((w2.setCell ⟨P, 0, none⟩ (.int .i64 4)).setCell ⟨P, 1, none⟩ (.int .i64 n)).setCell ⟨P, 2, none⟩ (.string xa)).cell? ⟨P, 1, none⟩ = some (.int .i64 n) := by (go_simp; done)
  have np2 : (((w2.setCell ⟨P, 0, none⟩ (.int .i64 4)).setCell ⟨P, 1, none⟩ (.int .i64 n)).setCell ⟨P, 2, none⟩ (.string xa)).cell? ⟨P, 2, none⟩ = some (.string xa) := by (go_simp; done)
  have nq0 : (((w2.setCell ⟨P, 0, none⟩ (.int .i64 4)).setCell ⟨P, 1, none⟩ (.int .i64 n)).setCell ⟨P, 2, none⟩ (.string xa)).cell? ⟨Q, 0, none⟩ = some (.int .i64 4) := by (go_simp; done)
  have nq1 : (((w2.setCell ⟨P, 0, none⟩ (.int .i64 4)).setCell ⟨P, 1, none⟩ (.int .i64 n)).setCell ⟨P, 2, none⟩ (.string xa)).cell? ⟨Q, 1, none⟩ = some (.int .i64 n) := by (go_simp; done)
  have nq2 : (((w2.setCell ⟨P, 0, none⟩ (.int .i64 4)).setCell ⟨P, 1, none⟩ (.int .i64 n)).setCell ⟨P, 2, none⟩ (.string xa)).cell? ⟨Q, 2, none⟩ = some (.string sb) := by (go_simp; done)
  have nf0 : ∀ k, (((w2.setCell ⟨P, 0, none⟩ (.int .i64 4)).setCell ⟨P, 1, none⟩ (.int .i64 n)).setCell ⟨P, 2, none⟩ (.string xa)).frozen? ⟨P, k, none⟩ = false := fun k => by simp [f0]
  have ng0 : ∀ k, (((w2.setCell ⟨P, 0, none⟩ (.int .i64 4)).setCell ⟨P, 1, none⟩ (.int .i64 n)).setCell ⟨P, 2, none⟩ (.string xa)).frozen? ⟨Q, k, none⟩ = false := fun k => by simp [g0]
  have nhz : Q < (((w2.setCell ⟨P, 0, none⟩ (.int .i64 4)).setCell ⟨P, 1, none⟩ (.int .i64 n)).setCell ⟨P, 2, none⟩ (.string xa)).heap.size := by simpa using hz
  have nB : Below w.heap.size w (((w2.setCell ⟨P, 0, none⟩ (.int .i64 4)).setCell ⟨P, 1, none⟩ (.int .i64 n)).setCell ⟨P, 2, none⟩ (.string xa)) := ((B.setCell (p := ⟨P, 0, none⟩) hwP _).setCell (p := ⟨P, 1, none⟩) hwP _).setCell (p := ⟨P, 2, none⟩) hwP _
  refine (SB'.out _).mono ?_
  rintro e w3 ⟨rfl, hb⟩
  replace p0 := keep_cell hb (Nat.lt_trans hPQ nhz) np0
  replace p1 := keep_cell hb (Nat.lt_trans hPQ nhz) np1
  replace p2 := keep_cell hb (Nat.lt_trans hPQ nhz) np2
  replace q0 := keep_cell hb nhz nq0
  replace q1 := keep_cell hb nhz nq1
  replace q2 := keep_cell hb nhz nq2
  replace f0 := fun k => ((bcell hb).2 P k (Nat.lt_trans hPQ nhz)).trans (nf0 k)
  replace g0 := fun k => ((bcell hb).2 Q k nhz).trans (ng0 k)
  replace B := nB.trans (hb.mono nB.size)
  replace hz := Nat.lt_of_lt_of_le nhz hb.size
  clear hb nB nhz nf0 ng0 np0 np1 np2 nq0 nq1 nq2
  go_wp2_with fail
  have np0 : (((w3.setCell ⟨Q, 0, none⟩ (.int .i64 4)).setCell ⟨Q, 1, none⟩ (.int .i64 n)).setCell ⟨Q, 2, none⟩ (.string xa)).cell? ⟨P, 0, none⟩ = some (.int .i64 4) := by (go_simp; done)
  have np1 : (((w3.setCell ⟨Q, 0, none⟩ (.int .i64 4)).setCell ⟨Q, 1, none⟩ (.int .i64 n)).setCell ⟨Q, 2, none⟩ (.string xa)).cell? ⟨P, 1, none⟩ = some (.int .i64 n) := by (go_simp; done)
  have np2 : (((w3.setCell ⟨Q, 0, none⟩ (.int .i64 4)).setCell ⟨Q, 1, none⟩ (.int .i64 n)).setCell ⟨Q, 2, none⟩ (.string xa)).cell? ⟨P, 2, none⟩ = some (.string xa) := by (go_simp; done)
  have nq0 : (((w3.setCell ⟨Q, 0, none⟩ (.int .i64 4)).setCell ⟨Q, 1, none⟩ (.int .i64 n)).setCell ⟨Q, 2, none⟩ (.string xa)).cell? ⟨Q, 0, none⟩ = some (.int .i64 4) := by (go_simp; done)
  have nq1 : (((w3.setCell ⟨Q, 0, none⟩ (.int .i64 4)).setCell ⟨Q, 1, none⟩ (.int .i64 n)).setCell ⟨Q, 2, none⟩ (.string xa)).cell? ⟨Q, 1, none⟩ = some (.int .i64 n) := by (go_simp; done)
  have nq2 : (((w3.setCell ⟨Q, 0, none⟩ (.int .i64 4)).setCell ⟨Q, 1, none⟩ (.int .i64 n)).setCell ⟨Q, 2, none⟩ (.string xa)).cell? ⟨Q, 2, none⟩ = some (.string xa) := by (go_simp; done)
  have nf0 : ∀ k, (((w3.setCell ⟨Q, 0, none⟩ (.int .i64 4)).setCell ⟨Q, 1, none⟩ (.int .i64 n)).setCell ⟨Q, 2, none⟩ (.string xa)).frozen? ⟨P, k, none⟩ = false := fun k => by simp [f0]
  have ng0 : ∀ k, (((w3.setCell ⟨Q, 0, none⟩ (.int .i64 4)).setCell ⟨Q, 1, none⟩ (.int .i64 n)).setCell ⟨Q, 2, none⟩ (.string xa)).frozen? ⟨Q, k, none⟩ = false := fun k => by simp [g0]
  have nhz : Q < (((w3.setCell ⟨Q, 0, none⟩ (.int .i64 4)).setCell ⟨Q, 1, none⟩ (.int .i64 n)).setCell ⟨Q, 2, none⟩ (.string xa)).heap.size := by simpa using hz
  have nB : Below w.heap.size w (((w3.setCell ⟨Q, 0, none⟩ (.int .i64 4)).setCell ⟨Q, 1, none⟩ (.int .i64 n)).setCell ⟨Q, 2, none⟩ (.string xa)) := ((B.setCell (p := ⟨Q, 0, none⟩) hwQ _).setCell (p := ⟨Q, 1, none⟩) hwQ _).setCell (p := ⟨Q, 2, none⟩) hwQ _
  refine (text_any _ _).mono ?_
  rintro e w4 ⟨rfl, hb⟩
  have d10 := keep_cell hb (Nat.lt_trans hPQ nhz) np0
  have d11 := keep_cell hb (Nat.lt_trans hPQ nhz) np1
  have d12 := keep_cell hb (Nat.lt_trans hPQ nhz) np2
  have d20 := keep_cell hb nhz nq0
  have d21 := keep_cell hb nhz nq1
  have d22 := keep_cell hb nhz nq2
  replace B := nB.trans (hb.mono nB.size)
  have y2 := Nat.lt_of_lt_of_le nhz hb.size
  have y1 : P < w4.heap.size := Nat.lt_trans hPQ y2
  clear hb nB nhz nf0 ng0 np0 np1 np2 nq0 nq1 nq2 p0 p1 p2 q0 q1 q2 f0 g0 hz
  go_wp2_with fail
  refine (text_any _ _).mono ?_
  rintro e x11 ⟨rfl, hb⟩
  replace d10 := up_cell hb y1 d10
  replace d11 := up_cell hb y1 d11
  replace d12 := up_cell hb y1 d12
  replace y1 := up_size hb (Nat.le_of_lt y1)
  replace d20 := up_cell hb y2 d20
  replace d21 := up_cell hb y2 d21
  replace d22 := up_cell hb y2 d22
  replace y2 := up_size hb (Nat.le_of_lt y2)
  obtain ⟨d30, d31, d32⟩ := new_cell hb
  have y3 : w4.heap.size < x11.heap.size := up_size hb (Nat.le_refl _)
  replace B := up_below hb B
  clear hb
  go_wp2_with fail
  refine (bin_long xa xa hla hla hl _).mono ?_
  rintro e x12 ⟨rfl, hb⟩
  replace d10 := up_cell hb y1 d10
  replace d11 := up_cell hb y1 d11
  replace d12 := up_cell hb y1 d12
  replace y1 := up_size hb (Nat.le_of_lt y1)
  replace d20 := up_cell hb y2 d20
  replace d21 := up_cell hb y2 d21
  replace d22 := up_cell hb y2 d22
  replace y2 := up_size hb (Nat.le_of_lt y2)
  replace d30 := up_cell hb y3 d30
  replace d31 := up_cell hb y3 d31
  replace d32 := up_cell hb y3 d32
  replace y3 := up_size hb (Nat.le_of_lt y3)
  obtain ⟨d40, d41, d42⟩ := new_cell hb
  have y4 : x11.heap.size < x12.heap.size := up_size hb (Nat.le_refl _)
  replace B := up_below hb B
  clear hb
  have hI : ¬ (xa.size : Int) + (xa.size : Int) ≤ 40 := by omega
  have hI1 : (xa.size : Int) ≤ 60 := by omega
  have hI3 : decide ((xa.size : Int) + (xa.size : Int) ≤ 40) = false := by simpa using hI
  go_wp2_with fail
  refine (MA'.out _).mono ?_
  rintro e x13 ⟨rfl, hb⟩
  replace d10 := up_cell hb y1 d10
  replace d11 := up_cell hb y1 d11
  replace d12 := up_cell hb y1 d12
  replace y1 := up_size hb (Nat.le_of_lt y1)
  replace d20 := up_cell hb y2 d20
  replace d21 := up_cell hb y2 d21
  replace d22 := up_cell hb y2 d22
  replace y2 := up_size hb (Nat.le_of_lt y2)
  replace d30 := up_cell hb y3 d30
  replace d31 := up_cell hb y3 d31
  replace d32 := up_cell hb y3 d32
  replace y3 := up_size hb (Nat.le_of_lt y3)
  replace d40 := up_cell hb y4 d40
  replace d41 := up_cell hb y4 d41
  replace d42 := up_cell hb y4 d42
  replace y4 := up_size hb (Nat.le_of_lt y4)
  obtain ⟨d50, d51, d52⟩ := new_cell hb
  have y5 : x12.heap.size < x13.heap.size := up_size hb (Nat.le_refl _)
  replace B := up_below hb B
  clear hb
  clear hI hI3
  go_wp2_with fail
  refine (MA'.out _).mono ?_
  rintro e x14 ⟨rfl, hb⟩
  replace d10 := keep_cell hb y1 d10
  replace d11 := keep_cell hb y1 d11
  replace d12 := keep_cell hb y1 d12
  replace y1 := Nat.lt_of_lt_of_le y1 hb.size
  replace d20 := keep_cell hb y2 d20
  replace d21 := keep_cell hb y2 d21
  replace d22 := keep_cell hb y2 d22
  replace y2 := Nat.lt_of_lt_of_le y2 hb.size
  replace d30 := keep_cell hb y3 d30
  replace d31 := keep_cell hb y3 d31
  replace d32 := keep_cell hb y3 d32
  replace y3 := Nat.lt_of_lt_of_le y3 hb.size
  replace d40 := keep_cell hb y4 d40
  replace d41 := keep_cell hb y4 d41
  replace d42 := keep_cell hb y4 d42
  replace y4 := Nat.lt_of_lt_of_le y4 hb.size
  replace d50 := keep_cell hb y5 d50
  replace d51 := keep_cell hb y5 d51
  replace d52 := keep_cell hb y5 d52
  replace y5 := Nat.lt_of_lt_of_le y5 hb.size
  replace B := keep_below B hb
  clear hb
  go_wp2_with fail
  refine (BE'.out _).mono ?_
  rintro e x15 ⟨rfl, hb⟩
  replace d10 := keep_cell hb y1 d10
  replace d11 := keep_cell hb y1 d11
  replace d12 := keep_cell hb y1 d12
  replace y1 := Nat.lt_of_lt_of_le y1 hb.size
  replace d20 := keep_cell hb y2 d20
  replace d21 := keep_cell hb y2 d21
  replace d22 := keep_cell hb y2 d22
  replace y2 := Nat.lt_of_lt_of_le y2 hb.size
  replace d30 := keep_cell hb y3 d30
  replace d31 := keep_cell hb y3 d31
  replace d32 := keep_cell hb y3 d32
  replace y3 := Nat.lt_of_lt_of_le y3 hb.size
  replace d40 := keep_cell hb y4 d40
  replace d41 := keep_cell hb y4 d41
  replace d42 := keep_cell hb y4 d42
  replace y4 := Nat.lt_of_lt_of_le y4 hb.size
  replace d50 := keep_cell hb y5 d50
  replace d51 := keep_cell hb y5 d51
  replace d52 := keep_cell hb y5 d52
  replace y5 := Nat.lt_of_lt_of_le y5 hb.size
  replace B := keep_below B hb
  clear hb
  go_wp2_with fail
  refine (BN'.out _).mono ?_
  rintro e x16 ⟨rfl, hb⟩
  replace d10 := up_cell hb y1 d10
  replace d11 := up_cell hb y1 d11
  replace d12 := up_cell hb y1 d12
  replace y1 := up_size hb (Nat.le_of_lt y1)
  replace d20 := up_cell hb y2 d20
  replace d21 := up_cell hb y2 d21
  replace d22 := up_cell hb y2 d22
  replace y2 := up_size hb (Nat.le_of_lt y2)
  replace d30 := up_cell hb y3 d30
  replace d31 := up_cell hb y3 d31
  replace d32 := up_cell hb y3 d32
  replace y3 := up_size hb (Nat.le_of_lt y3)
  replace d40 := up_cell hb y4 d40
  replace d41 := up_cell hb y4 d41
  replace d42 := up_cell hb y4 d42
  replace y4 := up_size hb (Nat.le_of_lt y4)
  replace d50 := up_cell hb y5 d50
  replace d51 := up_cell hb y5 d51
  replace d52 := up_cell hb y5 d52
  replace y5 := up_size hb (Nat.le_of_lt y5)
  obtain ⟨d60, d61, d62⟩ := new_cell hb
  have y6 : x15.heap.size < x16.heap.size := up_size hb (Nat.le_refl _)
  replace B := up_below hb B
  clear hb
  go_upto_region 13 with fail
  obtain ⟨W16, hW⟩ : ∃ W : World, W = x16.alloc (.cells #[.int .i64 2, .int .i64 0, .string { data := #[] }] 23) := ⟨_, rfl⟩
  replace d10 : W16.cell? ⟨P, 0, none⟩ = _ := (congrArg (fun W : World => W.cell? ⟨P, 0, none⟩) hW).trans (at_alloc y1 d10)
  replace d11 : W16.cell? ⟨P, 1, none⟩ = _ := (congrArg (fun W : World => W.cell? ⟨P, 1, none⟩) hW).trans (at_alloc y1 d11)
  replace d12 : W16.cell? ⟨P, 2, none⟩ = _ := (congrArg (fun W : World => W.cell? ⟨P, 2, none⟩) hW).trans (at_alloc y1 d12)
  replace y1 : P < W16.heap.size := by rw [hW]; simp; omega
  replace d20 : W16.cell? ⟨Q, 0, none⟩ = _ := (congrArg (fun W : World => W.cell? ⟨Q, 0, none⟩) hW).trans (at_alloc y2 d20)
  replace d21 : W16.cell? ⟨Q, 1, none⟩ = _ := (congrArg (fun W : World => W.cell? ⟨Q, 1, none⟩) hW).trans (at_alloc y2 d21)
  replace d22 : W16.cell? ⟨Q, 2, none⟩ = _ := (congrArg (fun W : World => W.cell? ⟨Q, 2, none⟩) hW).trans (at_alloc y2 d22)
  replace y2 : Q < W16.heap.size := by rw [hW]; simp; omega
  replace d30 : W16.cell? ⟨w4.heap.size, 0, none⟩ = _ := (congrArg (fun W : World => W.cell? ⟨w4.heap.size, 0, none⟩) hW).trans (at_alloc y3 d30)
  replace d31 : W16.cell? ⟨w4.heap.size, 1, none⟩ = _ := (congrArg (fun W : World => W.cell? ⟨w4.heap.size, 1, none⟩) hW).trans (at_alloc y3 d31)
  replace d32 : W16.cell? ⟨w4.heap.size, 2, none⟩ = _ := (congrArg (fun W : World => W.cell? ⟨w4.heap.size, 2, none⟩) hW).trans (at_alloc y3 d32)
  replace y3 : w4.heap.size < W16.heap.size := by rw [hW]; simp; omega
  replace d40 : W16.cell? ⟨x11.heap.size, 0, none⟩ = _ := (congrArg (fun W : World => W.cell? ⟨x11.heap.size, 0, none⟩) hW).trans (at_alloc y4 d40)
  replace d41 : W16.cell? ⟨x11.heap.size, 1, none⟩ = _ := (congrArg (fun W : World => W.cell? ⟨x11.heap.size, 1, none⟩) hW).trans (at_alloc y4 d41)
  replace d42 : W16.cell? ⟨x11.heap.size, 2, none⟩ = _ := (congrArg (fun W : World => W.cell? ⟨x11.heap.size, 2, none⟩) hW).trans (at_alloc y4 d42)
  replace y4 : x11.heap.size < W16.heap.size := by rw [hW]; simp; omega
  replace d50 : W16.cell? ⟨x12.heap.size, 0, none⟩ = _ := (congrArg (fun W : World => W.cell? ⟨x12.heap.size, 0, none⟩) hW).trans (at_alloc y5 d50)
  replace d51 : W16.cell? ⟨x12.heap.size, 1, none⟩ = _ := (congrArg (fun W : World => W.cell? ⟨x12.heap.size, 1, none⟩) hW).trans (at_alloc y5 d51)
  replace d52 : W16.cell? ⟨x12.heap.size, 2, none⟩ = _ := (congrArg (fun W : World => W.cell? ⟨x12.heap.size, 2, none⟩) hW).trans (at_alloc y5 d52)
  replace y5 : x12.heap.size < W16.heap.size := by rw [hW]; simp; omega
  replace d60 : W16.cell? ⟨x15.heap.size, 0, none⟩ = _ := (congrArg (fun W : World => W.cell? ⟨x15.heap.size, 0, none⟩) hW).trans (at_alloc y6 d60)
  replace d61 : W16.cell? ⟨x15.heap.size, 1, none⟩ = _ := (congrArg (fun W : World => W.cell? ⟨x15.heap.size, 1, none⟩) hW).trans (at_alloc y6 d61)
  replace d62 : W16.cell? ⟨x15.heap.size, 2, none⟩ = _ := (congrArg (fun W : World => W.cell? ⟨x15.heap.size, 2, none⟩) hW).trans (at_alloc y6 d62)
  replace y6 : x15.heap.size < W16.heap.size := by rw [hW]; simp; omega
  obtain ⟨d70, d71, d72⟩ : W16.cell? ⟨x16.heap.size, 0, none⟩ = some (.int .i64 2) ∧ W16.cell? ⟨x16.heap.size, 1, none⟩ = some (.int .i64 0) ∧ W16.cell? ⟨x16.heap.size, 2, none⟩ = some (.string { data := #[] }) := by rw [hW]; exact at_new
  have y7 : x16.heap.size < W16.heap.size := by rw [hW]; simp
  replace B : Below w.heap.size w W16 := by rw [hW]; exact B.alloc B.size _
  rw [← hW]
  clear hW
  clear d30 d31 d32 y3
  clear d40 d41 d42 y4
  clear d50 d51 d52 y5
  have mk : ∀ w' : World, Below W16.heap.size W16 w' → (w'.cell? ⟨P, 0, none⟩ = some (.int .i64 4) ∧ w'.cell? ⟨P, 1, none⟩ = some (.int .i64 n) ∧ w'.cell? ⟨P, 2, none⟩ = some (.string xa) ∧ w'.cell? ⟨Q, 0, none⟩ = some (.int .i64 4) ∧ w'.cell? ⟨Q, 1, none⟩ = some (.int .i64 n) ∧ w'.cell? ⟨Q, 2, none⟩ = some (.string xa) ∧ w'.cell? ⟨x15.heap.size, 0, none⟩ = some (.int .i64 2) ∧ w'.cell? ⟨x15.heap.size, 1, none⟩ = some (.int .i64 1) ∧ w'.cell? ⟨x15.heap.size, 2, none⟩ = some (.string { data := #[] }) ∧ w'.cell? ⟨x16.heap.size, 0, none⟩ = some (.int .i64 2) ∧ w'.cell? ⟨x16.heap.size, 1, none⟩ = some (.int .i64 0) ∧ w'.cell? ⟨x16.heap.size, 2, none⟩ = some (.string { data := #[] }) ∧ Below W16.heap.size W16 w') := fun w' h => ⟨keep_cell h y1 d10, keep_cell h y1 d11, keep_cell h y1 d12, keep_cell h y2 d20, keep_cell h y2 d21, keep_cell h y2 d22, keep_cell h y6 d60, keep_cell h y6 d61, keep_cell h y6 d62, keep_cell h y7 d70, keep_cell h y7 d71, keep_cell h y7 d72, h⟩
  have MK := Lib.hid mk
  clear mk
  refine wp_region_held_drew (S := fun w' => w'.cell? ⟨P, 0, none⟩ = some (.int .i64 4) ∧ w'.cell? ⟨P, 1, none⟩ = some (.int .i64 n) ∧ w'.cell? ⟨P, 2, none⟩ = some (.string xa) ∧ w'.cell? ⟨Q, 0, none⟩ = some (.int .i64 4) ∧ w'.cell? ⟨Q, 1, none⟩ = some (.int .i64 n) ∧ w'.cell? ⟨Q, 2, none⟩ = some (.string xa) ∧ w'.cell? ⟨x15.heap.size, 0, none⟩ = some (.int .i64 2) ∧ w'.cell? ⟨x15.heap.size, 1, none⟩ = some (.int .i64 1) ∧ w'.cell? ⟨x15.heap.size, 2, none⟩ = some (.string { data := #[] }) ∧ w'.cell? ⟨x16.heap.size, 0, none⟩ = some (.int .i64 2) ∧ w'.cell? ⟨x16.heap.size, 1, none⟩ = some (.int .i64 0) ∧ w'.cell? ⟨x16.heap.size, 2, none⟩ = some (.string { data := #[] }) ∧ Below W16.heap.size W16 w') (by kernel_rfl) (MK.out _ (Below.drew (Below.refl _ _))) (fun hHeld => ?_)
  refine wpAnyH_take (i := 0) (v := ?_) rfl (by kernel_rfl) (by kernel_rfl) (by kernel_rfl) (fun _ _ _ h => h) (Or.inl ⟨by rfl, ?_⟩) (by assumption) ?_
  rotate_left
  · (intro w' hSw; (try dsimp only at hSw); go_simp; (try (with_reducible rfl)))
  simp only [Act.put, List.getElem_toArray, List.getElem_cons_zero, List.setIfInBounds_toArray, List.set_cons_succ, List.set_cons_zero]
  refine wpAnyH_take (i := 1) (v := ?_) rfl (by kernel_rfl) (by kernel_rfl) (by kernel_rfl) (fun _ _ _ h => h) (Or.inl ⟨by rfl, ?_⟩) (by assumption) ?_
  rotate_left
  · (intro w' hSw; (try dsimp only at hSw); go_simp; (try (with_reducible rfl)))
  simp only [Act.put, List.getElem_toArray, List.getElem_cons_succ, List.getElem_cons_zero, List.setIfInBounds_toArray, List.set_cons_succ, List.set_cons_zero]
  refine wpAnyH_take (i := 2) (v := ?_) rfl (by kernel_rfl) (by kernel_rfl) (by kernel_rfl) (fun _ _ _ h => h) (Or.inl ⟨by rfl, ?_⟩) (by assumption) ?_
  rotate_left
  · (intro w' hSw; (try dsimp only at hSw); go_simp; (try (with_reducible rfl)))
  simp only [Act.put, List.getElem_toArray, List.getElem_cons_succ, List.getElem_cons_zero, List.setIfInBounds_toArray, List.set_cons_succ, List.set_cons_zero]
  refine wpAnyH_take (i := 3) (v := ?_) rfl (by kernel_rfl) (by kernel_rfl) (by kernel_rfl) (fun _ _ _ h => h) (Or.inl ⟨by rfl, ?_⟩) (by assumption) ?_
  rotate_left
  · (intro w' hSw; (try dsimp only at hSw); go_simp; (try (with_reducible rfl)))
  simp only [Act.put, List.getElem_toArray, List.getElem_cons_succ, List.getElem_cons_zero, List.setIfInBounds_toArray, List.set_cons_succ, List.set_cons_zero]
  refine wpAnyH_take (i := 4) (v := ?_) rfl (by kernel_rfl) (by kernel_rfl) (by kernel_rfl) (fun _ _ _ h => h) (Or.inl ⟨by rfl, ?_⟩) (by assumption) ?_
  rotate_left
  · (intro w' hSw; (try dsimp only at hSw); go_simp; (try (with_reducible rfl)))
  simp only [Act.put, List.getElem_toArray, List.getElem_cons_succ, List.getElem_cons_zero, List.setIfInBounds_toArray, List.set_cons_succ, List.set_cons_zero]
  refine wpAnyH_take (i := 5) (v := ?_) rfl (by kernel_rfl) (by kernel_rfl) (by kernel_rfl) (fun _ _ _ h => h) (Or.inl ⟨by rfl, ?_⟩) (by assumption) ?_
  rotate_left
  · (intro w' hSw; (try dsimp only at hSw); go_simp; (try (with_reducible rfl)))
  simp only [Act.put, List.getElem_toArray, List.getElem_cons_succ, List.getElem_cons_zero, List.setIfInBounds_toArray, List.set_cons_succ, List.set_cons_zero]
  refine wpAnyH_take (i := 6) (v := ?_) rfl (by kernel_rfl) (by kernel_rfl) (by kernel_rfl) (fun _ _ _ h => h) (Or.inl ⟨by rfl, ?_⟩) (by assumption) ?_
  rotate_left
  · (intro w' hSw; (try dsimp only at hSw); go_simp; (try (with_reducible rfl)))
  simp only [Act.put, List.getElem_toArray, List.getElem_cons_succ, List.getElem_cons_zero, List.setIfInBounds_toArray, List.set_cons_succ, List.set_cons_zero]
  refine wpAnyH_take (i := 7) (v := ?_) rfl (by kernel_rfl) (by kernel_rfl) (by kernel_rfl) (fun _ _ _ h => h) (Or.inl ⟨by rfl, ?_⟩) (by assumption) ?_
  rotate_left
  · (intro w' hSw; (try dsimp only at hSw); go_simp; (try (with_reducible rfl)))
  simp only [Act.put, List.getElem_toArray, List.getElem_cons_succ, List.getElem_cons_zero, List.setIfInBounds_toArray, List.set_cons_succ, List.set_cons_zero]
  refine wpAnyH_take (i := 8) (v := ?_) rfl (by kernel_rfl) (by kernel_rfl) (by kernel_rfl) (fun _ _ _ h => h) (Or.inl ⟨by rfl, ?_⟩) (by assumption) ?_
  rotate_left
  · (intro w' hSw; (try dsimp only at hSw); go_simp; (try (with_reducible rfl)))
  simp only [Act.put, List.getElem_toArray, List.getElem_cons_succ, List.getElem_cons_zero, List.setIfInBounds_toArray, List.set_cons_succ, List.set_cons_zero]
  refine wpAnyH_ready (rs := [9]) (by kernel_rfl) (by simp) ?_
  refine AllReadyH.cons rfl (fun K hK => ?_) AllReadyH.nil
  go_simp
  (go_at_call 23; refine (logic.sign_not0 _).mono ?_; rintro e w4 ⟨rfl, hb4⟩; (try go_simp))
  refine hK.out _ _ ?_ (fun hHeld => ?_)
  · (try dsimp only); exact MK.out _ (keep_below hHeld.2.2.2.2.2.2.2.2.2.2.2.2 hb4)
  clear hK K
  refine wpAnyH_take (i := 10) (v := ?_) rfl (by kernel_rfl) (by kernel_rfl) (by kernel_rfl) (fun _ _ _ h => h) (Or.inl ⟨by rfl, ?_⟩) (by assumption) ?_
  rotate_left
  · (intro w' hSw; (try dsimp only at hSw); go_simp; (try (with_reducible rfl)))
  simp only [Act.put, List.getElem_toArray, List.getElem_cons_succ, List.getElem_cons_zero, List.setIfInBounds_toArray, List.set_cons_succ, List.set_cons_zero]
  refine wpAnyH_take (i := 11) (v := ?_) rfl (by kernel_rfl) (by kernel_rfl) (by kernel_rfl) (fun _ _ _ h => h) (Or.inl ⟨by rfl, ?_⟩) (by assumption) ?_
  rotate_left
  · (intro w' hSw; (try dsimp only at hSw); go_simp; (try (with_reducible rfl)))
  simp only [Act.put, List.getElem_toArray, List.getElem_cons_succ, List.getElem_cons_zero, List.setIfInBounds_toArray, List.set_cons_succ, List.set_cons_zero]
  refine wpAnyH_take (i := 12) (v := ?_) rfl (by kernel_rfl) (by kernel_rfl) (by kernel_rfl) (fun _ _ _ h => h) (Or.inl ⟨by rfl, ?_⟩) (by assumption) ?_
  rotate_left
  · (intro w' hSw; (try dsimp only at hSw); go_simp; (try (with_reducible rfl)))
  simp only [Act.put, List.getElem_toArray, List.getElem_cons_succ, List.getElem_cons_zero, List.setIfInBounds_toArray, List.set_cons_succ, List.set_cons_zero]
  refine wpAnyH_take (i := 13) (v := ?_) rfl (by kernel_rfl) (by kernel_rfl) (by kernel_rfl) (fun _ _ _ h => h) (Or.inl ⟨by rfl, ?_⟩) (by assumption) ?_
  rotate_left
  · (intro w' hSw; (try dsimp only at hSw); go_simp; (try (with_reducible rfl)))
  simp only [Act.put, List.getElem_toArray, List.getElem_cons_succ, List.getElem_cons_zero, List.setIfInBounds_toArray, List.set_cons_succ, List.set_cons_zero]
  refine wpAnyH_take (i := 14) (v := ?_) rfl (by kernel_rfl) (by kernel_rfl) (by kernel_rfl) (fun _ _ _ h => h) (Or.inl ⟨by rfl, ?_⟩) (by assumption) ?_
  rotate_left
  · (intro w' hSw; (try dsimp only at hSw); go_simp; (try (with_reducible rfl)))
  simp only [Act.put, List.getElem_toArray, List.getElem_cons_succ, List.getElem_cons_zero, List.setIfInBounds_toArray, List.set_cons_succ, List.set_cons_zero]
  refine wpAnyH_take (i := 15) (v := ?_) rfl (by kernel_rfl) (by kernel_rfl) (by kernel_rfl) (fun _ _ _ h => h) (Or.inl ⟨by rfl, ?_⟩) (by assumption) ?_
  rotate_left
  · (intro w' hSw; (try dsimp only at hSw); go_simp; (try (with_reducible rfl)))
  simp only [Act.put, List.getElem_toArray, List.getElem_cons_succ, List.getElem_cons_zero, List.setIfInBounds_toArray, List.set_cons_succ, List.set_cons_zero]
  refine wpAnyH_take (i := 16) (v := ?_) rfl (by kernel_rfl) (by kernel_rfl) (by kernel_rfl) (fun _ _ _ h => h) (Or.inl ⟨by rfl, ?_⟩) (by assumption) ?_
  rotate_left
  · (intro w' hSw; (try dsimp only at hSw); go_simp; (try (with_reducible rfl)))
  simp only [Act.put, List.getElem_toArray, List.getElem_cons_succ, List.getElem_cons_zero, List.setIfInBounds_toArray, List.set_cons_succ, List.set_cons_zero]
  refine wpAnyH_take (i := 17) (v := ?_) rfl (by kernel_rfl) (by kernel_rfl) (by kernel_rfl) (fun _ _ _ h => h) (Or.inl ⟨by rfl, ?_⟩) (by assumption) ?_
  rotate_left
  · (intro w' hSw; (try dsimp only at hSw); go_simp; (try (with_reducible rfl)))
  simp only [Act.put, List.getElem_toArray, List.getElem_cons_succ, List.getElem_cons_zero, List.setIfInBounds_toArray, List.set_cons_succ, List.set_cons_zero]
  refine wpAnyH_take (i := 18) (v := ?_) rfl (by kernel_rfl) (by kernel_rfl) (by kernel_rfl) (fun _ _ _ h => h) (Or.inl ⟨by rfl, ?_⟩) (by assumption) ?_
  rotate_left
  · (intro w' hSw; (try dsimp only at hSw); go_simp; (try (with_reducible rfl)))
  simp only [Act.put, List.getElem_toArray, List.getElem_cons_succ, List.getElem_cons_zero, List.setIfInBounds_toArray, List.set_cons_succ, List.set_cons_zero]
  refine wpAnyH_take (i := 19) (v := ?_) rfl (by kernel_rfl) (by kernel_rfl) (by kernel_rfl) (fun _ _ _ h => h) (Or.inl ⟨by rfl, ?_⟩) (by assumption) ?_
  rotate_left
  · (intro w' hSw; (try dsimp only at hSw); go_simp; (try (with_reducible rfl)))
  simp only [Act.put, List.getElem_toArray, List.getElem_cons_succ, List.getElem_cons_zero, List.setIfInBounds_toArray, List.set_cons_succ, List.set_cons_zero]
  refine wpAnyH_take (i := 20) (v := ?_) rfl (by kernel_rfl) (by kernel_rfl) (by kernel_rfl) (fun _ _ _ h => h) (Or.inl ⟨by rfl, ?_⟩) (by assumption) ?_
  rotate_left
  · (intro w' hSw; (try dsimp only at hSw); go_simp; (try (with_reducible rfl)))
  simp only [Act.put, List.getElem_toArray, List.getElem_cons_succ, List.getElem_cons_zero, List.setIfInBounds_toArray, List.set_cons_succ, List.set_cons_zero]
  refine wpAnyH_done (by kernel_rfl) ?_ _
  have hb : Below W16.heap.size W16 w4 := (by assumption : w4.cell? ⟨P, 0, none⟩ = some (.int .i64 4) ∧ w4.cell? ⟨P, 1, none⟩ = some (.int .i64 n) ∧ w4.cell? ⟨P, 2, none⟩ = some (.string xa) ∧ w4.cell? ⟨Q, 0, none⟩ = some (.int .i64 4) ∧ w4.cell? ⟨Q, 1, none⟩ = some (.int .i64 n) ∧ w4.cell? ⟨Q, 2, none⟩ = some (.string xa) ∧ w4.cell? ⟨x15.heap.size, 0, none⟩ = some (.int .i64 2) ∧ w4.cell? ⟨x15.heap.size, 1, none⟩ = some (.int .i64 1) ∧ w4.cell? ⟨x15.heap.size, 2, none⟩ = some (.string { data := #[] }) ∧ w4.cell? ⟨x16.heap.size, 0, none⟩ = some (.int .i64 2) ∧ w4.cell? ⟨x16.heap.size, 1, none⟩ = some (.int .i64 0) ∧ w4.cell? ⟨x16.heap.size, 2, none⟩ = some (.string { data := #[] }) ∧ Below W16.heap.size W16 w4).2.2.2.2.2.2.2.2.2.2.2.2
  replace d10 := keep_cell hb y1 d10
  replace d11 := keep_cell hb y1 d11
  replace d12 := keep_cell hb y1 d12
  replace y1 := Nat.lt_of_lt_of_le y1 hb.size
  replace d20 := keep_cell hb y2 d20
  replace d21 := keep_cell hb y2 d21
  replace d22 := keep_cell hb y2 d22
  replace y2 := Nat.lt_of_lt_of_le y2 hb.size
  replace d60 := keep_cell hb y6 d60
  replace d61 := keep_cell hb y6 d61
  replace d62 := keep_cell hb y6 d62
  replace y6 := Nat.lt_of_lt_of_le y6 hb.size
  replace d70 := keep_cell hb y7 d70
  replace d71 := keep_cell hb y7 d71
  replace d72 := keep_cell hb y7 d72
  replace y7 := Nat.lt_of_lt_of_le y7 hb.size
  replace B := keep_below B hb
  clear hb
  clear MK
  obtain ⟨V5, hV5⟩ : ∃ V5 : World, V5 = w4 := ⟨_, rfl⟩
  subst hV5
  go_upto_region 15 with fail
  have HTV : Hid (TabW V5) := HT.out.below B HT.out.2
  clear d60 d61 d62 y6
  clear d70 d71 d72 y7
  have mk : ∀ w' : World, Below V5.heap.size V5 w' → (w'.cell? ⟨P, 0, none⟩ = some (.int .i64 4) ∧ w'.cell? ⟨P, 1, none⟩ = some (.int .i64 n) ∧ w'.cell? ⟨P, 2, none⟩ = some (.string xa) ∧ w'.cell? ⟨Q, 0, none⟩ = some (.int .i64 4) ∧ w'.cell? ⟨Q, 1, none⟩ = some (.int .i64 n) ∧ w'.cell? ⟨Q, 2, none⟩ = some (.string xa) ∧ Below V5.heap.size V5 w') := fun w' h => ⟨keep_cell h y1 d10, keep_cell h y1 d11, keep_cell h y1 d12, keep_cell h y2 d20, keep_cell h y2 d21, keep_cell h y2 d22, h⟩
  have MK := Lib.hid mk
  clear mk
  refine wp_region_held_drew (S := fun w' => w'.cell? ⟨P, 0, none⟩ = some (.int .i64 4) ∧ w'.cell? ⟨P, 1, none⟩ = some (.int .i64 n) ∧ w'.cell? ⟨P, 2, none⟩ = some (.string xa) ∧ w'.cell? ⟨Q, 0, none⟩ = some (.int .i64 4) ∧ w'.cell? ⟨Q, 1, none⟩ = some (.int .i64 n) ∧ w'.cell? ⟨Q, 2, none⟩ = some (.string xa) ∧ Below V5.heap.size V5 w') (by kernel_rfl) (MK.out _ (Below.drew (Below.refl _ _))) (fun hHeld => ?_)
  refine wpAnyH_take (i := 0) (v := ?_) rfl (by kernel_rfl) (by kernel_rfl) (by kernel_rfl) (fun _ _ _ h => h) (Or.inl ⟨by rfl, ?_⟩) (by assumption) ?_
  rotate_left
  · (intro w' hSw; (try dsimp only at hSw); go_simp; (try (with_reducible rfl)))
  simp only [Act.put, List.getElem_toArray, List.getElem_cons_zero, List.setIfInBounds_toArray, List.set_cons_succ, List.set_cons_zero]
  refine wpAnyH_take (i := 1) (v := ?_) rfl (by kernel_rfl) (by kernel_rfl) (by kernel_rfl) (fun _ _ _ h => h) (Or.inl ⟨by rfl, ?_⟩) (by assumption) ?_
  rotate_left
  · (intro w' hSw; (try dsimp only at hSw); go_simp; (try (with_reducible rfl)))
  simp only [Act.put, List.getElem_toArray, List.getElem_cons_succ, List.getElem_cons_zero, List.setIfInBounds_toArray, List.set_cons_succ, List.set_cons_zero]
  refine wpAnyH_take (i := 2) (v := ?_) rfl (by kernel_rfl) (by kernel_rfl) (by kernel_rfl) (fun _ _ _ h => h) (Or.inl ⟨by rfl, ?_⟩) (by assumption) ?_
  rotate_left
  · (intro w' hSw; (try dsimp only at hSw); go_simp; (try (with_reducible rfl)))
  simp only [Act.put, List.getElem_toArray, List.getElem_cons_succ, List.getElem_cons_zero, List.setIfInBounds_toArray, List.set_cons_succ, List.set_cons_zero]
  refine wpAnyH_take (i := 3) (v := ?_) rfl (by kernel_rfl) (by kernel_rfl) (by kernel_rfl) (fun _ _ _ h => h) (Or.inl ⟨by rfl, ?_⟩) (by assumption) ?_
  rotate_left
  · (intro w' hSw; (try dsimp only at hSw); go_simp; (try (with_reducible rfl)))
  simp only [Act.put, List.getElem_toArray, List.getElem_cons_succ, List.getElem_cons_zero, List.setIfInBounds_toArray, List.set_cons_succ, List.set_cons_zero]
  refine wpAnyH_take (i := 4) (v := ?_) rfl (by kernel_rfl) (by kernel_rfl) (by kernel_rfl) (fun _ _ _ h => h) (Or.inl ⟨by rfl, ?_⟩) (by assumption) ?_
  rotate_left
  · (intro w' hSw; (try dsimp only at hSw); go_simp; (try (with_reducible rfl)))
  simp only [Act.put, List.getElem_toArray, List.getElem_cons_succ, List.getElem_cons_zero, List.setIfInBounds_toArray, List.set_cons_succ, List.set_cons_zero]
  refine wpAnyH_take (i := 5) (v := ?_) rfl (by kernel_rfl) (by kernel_rfl) (by kernel_rfl) (fun _ _ _ h => h) (Or.inl ⟨by rfl, ?_⟩) (by assumption) ?_
  rotate_left
  · (intro w' hSw; (try dsimp only at hSw); go_simp; (try (with_reducible rfl)))
  simp only [Act.put, List.getElem_toArray, List.getElem_cons_succ, List.getElem_cons_zero, List.setIfInBounds_toArray, List.set_cons_succ, List.set_cons_zero]
  refine wpAnyH_take (i := 6) (v := undef) rfl (by kernel_rfl) (by kernel_rfl) (by kernel_rfl) (fun _ _ _ h => h) (Or.inr ⟨by rfl, rfl⟩) (by assumption) ?_
  simp only [Act.put, List.getElem_toArray, List.getElem_cons_succ, List.getElem_cons_zero, List.setIfInBounds_toArray, List.set_cons_succ, List.set_cons_zero]
  refine wpAnyH_take (i := 7) (v := undef) rfl (by kernel_rfl) (by kernel_rfl) (by kernel_rfl) (fun _ _ _ h => h) (Or.inr ⟨by rfl, rfl⟩) (by assumption) ?_
  simp only [Act.put, List.getElem_toArray, List.getElem_cons_succ, List.getElem_cons_zero, List.setIfInBounds_toArray, List.set_cons_succ, List.set_cons_zero]
  refine wpAnyH_take (i := 8) (v := undef) rfl (by kernel_rfl) (by kernel_rfl) (by kernel_rfl) (fun _ _ _ h => h) (Or.inr ⟨by rfl, rfl⟩) (by assumption) ?_
  simp only [Act.put, List.getElem_toArray, List.getElem_cons_succ, List.getElem_cons_zero, List.setIfInBounds_toArray, List.set_cons_succ, List.set_cons_zero]
  refine wpAnyH_take (i := 9) (v := undef) rfl (by kernel_rfl) (by kernel_rfl) (by kernel_rfl) (fun _ _ _ h => h) (Or.inr ⟨by rfl, rfl⟩) (by assumption) ?_
  simp only [Act.put, List.getElem_toArray, List.getElem_cons_succ, List.getElem_cons_zero, List.setIfInBounds_toArray, List.set_cons_succ, List.set_cons_zero]
  refine wpAnyH_take (i := 10) (v := undef) rfl (by kernel_rfl) (by kernel_rfl) (by kernel_rfl) (fun _ _ _ h => h) (Or.inr ⟨by rfl, rfl⟩) (by assumption) ?_
  simp only [Act.put, List.getElem_toArray, List.getElem_cons_succ, List.getElem_cons_zero, List.setIfInBounds_toArray, List.set_cons_succ, List.set_cons_zero]
  refine wpAnyH_take (i := 11) (v := undef) rfl (by kernel_rfl) (by kernel_rfl) (by kernel_rfl) (fun _ _ _ h => h) (Or.inr ⟨by rfl, rfl⟩) (by assumption) ?_
  simp only [Act.put, List.getElem_toArray, List.getElem_cons_succ, List.getElem_cons_zero, List.setIfInBounds_toArray, List.set_cons_succ, List.set_cons_zero]
  refine wpAnyH_take (i := 12) (v := undef) rfl (by kernel_rfl) (by kernel_rfl) (by kernel_rfl) (fun _ _ _ h => h) (Or.inr ⟨by rfl, rfl⟩) (by assumption) ?_
  simp only [Act.put, List.getElem_toArray, List.getElem_cons_succ, List.getElem_cons_zero, List.setIfInBounds_toArray, List.set_cons_succ, List.set_cons_zero]
  refine wpAnyH_take (i := 13) (v := undef) rfl (by kernel_rfl) (by kernel_rfl) (by kernel_rfl) (fun _ _ _ h => h) (Or.inr ⟨by rfl, rfl⟩) (by assumption) ?_
  simp only [Act.put, List.getElem_toArray, List.getElem_cons_succ, List.getElem_cons_zero, List.setIfInBounds_toArray, List.set_cons_succ, List.set_cons_zero]
  refine wpAnyH_take (i := 14) (v := undef) rfl (by kernel_rfl) (by kernel_rfl) (by kernel_rfl) (fun _ _ _ h => h) (Or.inr ⟨by rfl, rfl⟩) (by assumption) ?_
  simp only [Act.put, List.getElem_toArray, List.getElem_cons_succ, List.getElem_cons_zero, List.setIfInBounds_toArray, List.set_cons_succ, List.set_cons_zero]
  refine wpAnyH_take (i := 15) (v := undef) rfl (by kernel_rfl) (by kernel_rfl) (by kernel_rfl) (fun _ _ _ h => h) (Or.inr ⟨by rfl, rfl⟩) (by assumption) ?_
  simp only [Act.put, List.getElem_toArray, List.getElem_cons_succ, List.getElem_cons_zero, List.setIfInBounds_toArray, List.set_cons_succ, List.set_cons_zero]
  refine wpAnyH_take (i := 16) (v := undef) rfl (by kernel_rfl) (by kernel_rfl) (by kernel_rfl) (fun _ _ _ h => h) (Or.inr ⟨by rfl, rfl⟩) (by assumption) ?_
  simp only [Act.put, List.getElem_toArray, List.getElem_cons_succ, List.getElem_cons_zero, List.setIfInBounds_toArray, List.set_cons_succ, List.set_cons_zero]
  refine wpAnyH_take (i := 17) (v := undef) rfl (by kernel_rfl) (by kernel_rfl) (by kernel_rfl) (fun _ _ _ h => h) (Or.inr ⟨by rfl, rfl⟩) (by assumption) ?_
  simp only [Act.put, List.getElem_toArray, List.getElem_cons_succ, List.getElem_cons_zero, List.setIfInBounds_toArray, List.set_cons_succ, List.set_cons_zero]
  refine wpAnyH_take (i := 18) (v := undef) rfl (by kernel_rfl) (by kernel_rfl) (by kernel_rfl) (fun _ _ _ h => h) (Or.inr ⟨by rfl, rfl⟩) (by assumption) ?_
  simp only [Act.put, List.getElem_toArray, List.getElem_cons_succ, List.getElem_cons_zero, List.setIfInBounds_toArray, List.set_cons_succ, List.set_cons_zero]
  refine wpAnyH_take (i := 19) (v := undef) rfl (by kernel_rfl) (by kernel_rfl) (by kernel_rfl) (fun _ _ _ h => h) (Or.inr ⟨by rfl, rfl⟩) (by assumption) ?_
  simp only [Act.put, List.getElem_toArray, List.getElem_cons_succ, List.getElem_cons_zero, List.setIfInBounds_toArray, List.set_cons_succ, List.set_cons_zero]
  refine wpAnyH_take (i := 20) (v := undef) rfl (by kernel_rfl) (by kernel_rfl) (by kernel_rfl) (fun _ _ _ h => h) (Or.inr ⟨by rfl, rfl⟩) (by assumption) ?_
  simp only [Act.put, List.getElem_toArray, List.getElem_cons_succ, List.getElem_cons_zero, List.setIfInBounds_toArray, List.set_cons_succ, List.set_cons_zero]
  refine wpAnyH_take (i := 21) (v := undef) rfl (by kernel_rfl) (by kernel_rfl) (by kernel_rfl) (fun _ _ _ h => h) (Or.inr ⟨by rfl, rfl⟩) (by assumption) ?_
  simp only [Act.put, List.getElem_toArray, List.getElem_cons_succ, List.getElem_cons_zero, List.setIfInBounds_toArray, List.set_cons_succ, List.set_cons_zero]
  refine wpAnyH_take (i := 22) (v := undef) rfl (by kernel_rfl) (by kernel_rfl) (by kernel_rfl) (fun _ _ _ h => h) (Or.inr ⟨by rfl, rfl⟩) (by assumption) ?_
  simp only [Act.put, List.getElem_toArray, List.getElem_cons_succ, List.getElem_cons_zero, List.setIfInBounds_toArray, List.set_cons_succ, List.set_cons_zero]
  refine wpAnyH_take (i := 23) (v := undef) rfl (by kernel_rfl) (by kernel_rfl) (by kernel_rfl) (fun _ _ _ h => h) (Or.inr ⟨by rfl, rfl⟩) (by assumption) ?_
  simp only [Act.put, List.getElem_toArray, List.getElem_cons_succ, List.getElem_cons_zero, List.setIfInBounds_toArray, List.set_cons_succ, List.set_cons_zero]
  refine wpAnyH_take (i := 24) (v := undef) rfl (by kernel_rfl) (by kernel_rfl) (by kernel_rfl) (fun _ _ _ h => h) (Or.inr ⟨by rfl, rfl⟩) (by assumption) ?_
  simp only [Act.put, List.getElem_toArray, List.getElem_cons_succ, List.getElem_cons_zero, List.setIfInBounds_toArray, List.set_cons_succ, List.set_cons_zero]
  refine wpAnyH_take (i := 25) (v := undef) rfl (by kernel_rfl) (by kernel_rfl) (by kernel_rfl) (fun _ _ _ h => h) (Or.inr ⟨by rfl, rfl⟩) (by assumption) ?_
  simp only [Act.put, List.getElem_toArray, List.getElem_cons_succ, List.getElem_cons_zero, List.setIfInBounds_toArray, List.set_cons_succ, List.set_cons_zero]
  refine wpAnyH_take (i := 26) (v := ?_) rfl (by kernel_rfl) (by kernel_rfl) (by kernel_rfl) (fun _ _ _ h => h) (Or.inl ⟨by rfl, ?_⟩) (by assumption) ?_
  rotate_left
  · (intro w' hSw; (try dsimp only at hSw); go_simp; (try (with_reducible rfl)))
  simp only [Act.put, List.getElem_toArray, List.getElem_cons_succ, List.getElem_cons_zero, List.setIfInBounds_toArray, List.set_cons_succ, List.set_cons_zero]
  refine wpAnyH_take (i := 27) (v := ?_) rfl (by kernel_rfl) (by kernel_rfl) (by kernel_rfl) (fun _ _ _ h => h) (Or.inl ⟨by rfl, ?_⟩) (by assumption) ?_
  rotate_left
  · (intro w' hSw; (try dsimp only at hSw); go_simp; (try (with_reducible rfl)))
  simp only [Act.put, List.getElem_toArray, List.getElem_cons_succ, List.getElem_cons_zero, List.setIfInBounds_toArray, List.set_cons_succ, List.set_cons_zero]
  refine wpAnyH_take (i := 28) (v := ?_) rfl (by kernel_rfl) (by kernel_rfl) (by kernel_rfl) (fun _ _ _ h => h) (Or.inl ⟨by rfl, ?_⟩) (by assumption) ?_
  rotate_left
  · (intro w' hSw; (try dsimp only at hSw); go_simp; (try (with_reducible rfl)))
  simp only [Act.put, List.getElem_toArray, List.getElem_cons_succ, List.getElem_cons_zero, List.setIfInBounds_toArray, List.set_cons_succ, List.set_cons_zero]
  refine wpAnyH_done (by kernel_rfl) ?_ _
  have hb : Below V5.heap.size V5 V5.drew := (Below.refl _ _).drew
  have HB := Lib.hid (keep_below B hb)
  clear hb
  go_wp2
  go_ret
  exact ⟨rfl, HB.out⟩

set_option maxRecDepth 100000 in
set_option maxHeartbeats 8000000 in
theorem txt_eq_long_other (t n : Int) (sa sb xa : ByteArray) (hla : xa.size ≤ 60) (hl : 40 < xa.size + xa.size)
    (wa qa : ByteArray)
    (h4 : ¬ t = 4)
    (SA : ∀ w, Calls Tryd.prog 11 #[.agg #[.int .i64 t, .int .i64 n, .string sa]] w fun e w' => e = .returned (.agg #[.int .i64 t, .int .i64 n, .string xa]) ∧ Below w.heap.size w w')
    (SB : ∀ w, Calls Tryd.prog 11 #[.agg #[.int .i64 t, .int .i64 n, .string sb]] w fun e w' => e = .returned (.agg #[.int .i64 t, .int .i64 n, .string xa]) ∧ Below w.heap.size w w')
    (MA : ∀ w, Calls Tryd.prog 25 #[.agg #[.int .i64 t, .int .i64 n, .string xa]] w fun e w' => e = .returned (.bool true) ∧ Below w.heap.size w w')
    (BE : ∀ w, Calls Tryd.prog 13 #[.string { data := #[61, 61] }, .agg #[.int .i64 t, .int .i64 n, .string xa], .agg #[.int .i64 t, .int .i64 n, .string xa]] w fun e w' => e = .returned (.tuple #[.agg #[.int .i64 2, .int .i64 1, .string { data := #[] }], .int .i64 0]) ∧ Below w.heap.size w w')
    (BN : ∀ w, Calls Tryd.prog 13 #[.string { data := #[33, 61] }, .agg #[.int .i64 t, .int .i64 n, .string xa], .agg #[.int .i64 t, .int .i64 n, .string xa]] w fun e w' => e = .returned (.tuple #[.agg #[.int .i64 2, .int .i64 0, .string { data := #[] }], .int .i64 0]) ∧ Below w.heap.size w w')
    (WA : ∀ w, TabW w → Calls Tryd.prog 27 #[.agg #[.int .i64 t, .int .i64 n, .string xa]] w fun e w' => e = .returned (.string wa) ∧ Below w.heap.size w w')
    (QA : ∀ w, TabW w → Calls Tryd.prog 29 #[.agg #[.int .i64 t, .int .i64 n, .string xa]] w fun e w' => e = .returned (.string qa) ∧ Below w.heap.size w w')
    (w : World) (hT : TabW w) :
    Calls Tryd.prog 6 #[.agg #[.int .i64 t, .int .i64 n, .string sa], .agg #[.int .i64 t, .int .i64 n, .string sb]] w fun e w' => e = .returned (.bool true) ∧ Below w.heap.size w w' := by
  have SA' := Lib.hid SA
  have SB' := Lib.hid SB
  have MA' := Lib.hid MA
  have BE' := Lib.hid BE
  have BN' := Lib.hid BN
  have WA' := Lib.hid WA
  have QA' := Lib.hid QA
  have HT := Lib.hid hT
  clear hT SA SB MA BE BN WA QA
  have h4' : (t == 4) = false := by simpa using h4
  clear h4
  go_enter Tryd.func6, Tryd.ntmps6
  go_wp2_with fail
  refine (shown_any _).mono ?_
  rintro e w1 ⟨rfl, hb1⟩
  have p0 : w1.cell? ⟨w.heap.size, 0, none⟩ = some (.int .i64 t) := (hb1.cell (p := ⟨w.heap.size, 0, none⟩) (by simp; omega)).trans (by simp)
  have p1 : w1.cell? ⟨w.heap.size, 1, none⟩ = some (.int .i64 n) := (hb1.cell (p := ⟨w.heap.size, 1, none⟩) (by simp; omega)).trans (by simp)
  have p2 : w1.cell? ⟨w.heap.size, 2, none⟩ = some (.string sa) := (hb1.cell (p := ⟨w.heap.size, 2, none⟩) (by simp; omega)).trans (by simp)
  have q0 : w1.cell? ⟨w.heap.size + 1, 0, none⟩ = some (.int .i64 t) := (hb1.cell (p := ⟨w.heap.size + 1, 0, none⟩) (by simp)).trans (by simp)
  have q1 : w1.cell? ⟨w.heap.size + 1, 1, none⟩ = some (.int .i64 n) := (hb1.cell (p := ⟨w.heap.size + 1, 1, none⟩) (by simp)).trans (by simp)
  have q2 : w1.cell? ⟨w.heap.size + 1, 2, none⟩ = some (.string sb) := (hb1.cell (p := ⟨w.heap.size + 1, 2, none⟩) (by simp)).trans (by simp)
  have f0 : ∀ k, w1.frozen? ⟨w.heap.size, k, none⟩ = false := fun k => (hb1.frozen (p := ⟨w.heap.size, k, none⟩) (by simp; omega)).trans (by simp)
  have g0 : ∀ k, w1.frozen? ⟨w.heap.size + 1, k, none⟩ = false := fun k => (hb1.frozen (p := ⟨w.heap.size + 1, k, none⟩) (by simp)).trans (by simp)
  have hz : w.heap.size + 1 < w1.heap.size := by have := hb1.size; simp at this; omega
  have B : Below w.heap.size w w1 := (((Below.refl _ _).alloc (Nat.le_refl _) _).alloc (by simp) _).trans (hb1.mono (by simp; omega))
  obtain ⟨P, hP⟩ : ∃ P : Nat, P = w.heap.size := ⟨_, rfl⟩
  obtain ⟨Q, hQ⟩ : ∃ Q : Nat, Q = w.heap.size + 1 := ⟨_, rfl⟩
  clear hb1
  rw [← hQ] at q0 q1 q2 g0 hz
  rw [← hP] at p0 p1 p2 f0
  have hPQ : P < Q := by omega
  have hwP : w.heap.size ≤ P := by omega
  have hwQ : w.heap.size ≤ Q := by omega
  rw [← hQ, ← hP]
  clear hP hQ
  go_wp2_with fail
  refine (SA'.out _).mono ?_
  rintro e w2 ⟨rfl, hb⟩
  replace p0 := keep_cell hb (by omega) p0
  replace p1 := keep_cell hb (by omega) p1
  replace p2 := keep_cell hb (by omega) p2
  replace q0 := keep_cell hb hz q0
  replace q1 := keep_cell hb hz q1
  replace q2 := keep_cell hb hz q2
  replace f0 := fun k => ((bcell hb).2 P k (by omega)).trans (f0 k)
  replace g0 := fun k => ((bcell hb).2 Q k hz).trans (g0 k)
  replace hz := Nat.lt_of_lt_of_le hz hb.size
  replace B := B.trans (hb.mono B.size)
  clear hb
  have hPQ1 : ¬ P = Q := by omega
  have hPQ2 : ¬ Q = P := by omega
  go_wp2_with fail
  have np0 : (((w2.setCell ⟨P, 0, none⟩ (.int .i64 t)).setCell ⟨P, 1, none⟩ (.int .i64 n)).setCell ⟨P, 2, none⟩ (.string xa)).cell? ⟨P, 0, none⟩ = some (.int .i64 t) := by (go_simp; done)
  have np1 : (((w2.setCell ⟨P, 0, none⟩ (.int .i64 t)).setCell ⟨P, 1, none⟩ (.int .i64 n)).setCell ⟨P, 2, none⟩ (.string xa)).cell? ⟨P, 1, none⟩ = some (.int .i64 n) := by (go_simp; done)
  have np2 : (((w2.setCell ⟨P, 0, none⟩ (.int .i64 t)).setCell ⟨P, 1, none⟩ (.int .i64 n)).setCell ⟨P, 2, none⟩ (.string xa)).cell? ⟨P, 2, none⟩ = some (.string xa) := by (go_simp; done)
  have nq0 : (((w2.setCell ⟨P, 0, none⟩ (.int .i64 t)).setCell ⟨P, 1, none⟩ (.int .i64 n)).setCell ⟨P, 2, none⟩ (.string xa)).cell? ⟨Q, 0, none⟩ = some (.int .i64 t) := by (go_simp; done)
  have nq1 : (((w2.setCell ⟨P, 0, none⟩ (.int .i64 t)).setCell ⟨P, 1, none⟩ (.int .i64 n)).setCell ⟨P, 2, none⟩ (.string xa)).cell? ⟨Q, 1, none⟩ = some (.int .i64 n) := by (go_simp; done)
  have nq2 : (((w2.setCell ⟨P, 0, none⟩ (.int .i64 t)).setCell ⟨P, 1, none⟩ (.int .i64 n)).setCell ⟨P, 2, none⟩ (.string xa)).cell? ⟨Q, 2, none⟩ = some (.string sb) := by (go_simp; done)
  have nf0 : ∀ k, (((w2.setCell ⟨P, 0, none⟩ (.int .i64 t)).setCell ⟨P, 1, none⟩ (.int .i64 n)).setCell ⟨P, 2, none⟩ (.string xa)).frozen? ⟨P, k, none⟩ = false := fun k => by simp [f0]
  have ng0 : ∀ k, (((w2.setCell ⟨P, 0, none⟩ (.int .i64 t)).setCell ⟨P, 1, none⟩ (.int .i64 n)).setCell ⟨P, 2, none⟩ (.string xa)).frozen? ⟨Q, k, none⟩ = false := fun k => by simp [g0]
  have nhz : Q < (((w2.setCell ⟨P, 0, none⟩ (.int .i64 t)).setCell ⟨P, 1, none⟩ (.int .i64 n)).setCell ⟨P, 2, none⟩ (.string xa)).heap.size := by simpa using hz
  have nB : Below w.heap.size w (((w2.setCell ⟨P, 0, none⟩ (.int .i64 t)).setCell ⟨P, 1, none⟩ (.int .i64 n)).setCell ⟨P, 2, none⟩ (.string xa)) := ((B.setCell (p := ⟨P, 0, none⟩) hwP _).setCell (p := ⟨P, 1, none⟩) hwP _).setCell (p := ⟨P, 2, none⟩) hwP _
  refine (SB'.out _).mono ?_
  rintro e w3 ⟨rfl, hb⟩
  replace p0 := keep_cell hb (Nat.lt_trans hPQ nhz) np0
  replace p1 := keep_cell hb (Nat.lt_trans hPQ nhz) np1
  replace p2 := keep_cell hb (Nat.lt_trans hPQ nhz) np2
  replace q0 := keep_cell hb nhz nq0
  replace q1 := keep_cell hb nhz nq1
  replace q2 := keep_cell hb nhz nq2
  replace f0 := fun k => ((bcell hb).2 P k (Nat.lt_trans hPQ nhz)).trans (nf0 k)
  replace g0 := fun k => ((bcell hb).2 Q k nhz).trans (ng0 k)
  replace B := nB.trans (hb.mono nB.size)
  replace hz := Nat.lt_of_lt_of_le nhz hb.size
  clear hb nB nhz nf0 ng0 np0 np1 np2 nq0 nq1 nq2
  go_wp2_with fail
  have np0 : (((w3.setCell ⟨Q, 0, none⟩ (.int .i64 t)).setCell ⟨Q, 1, none⟩ (.int .i64 n)).setCell ⟨Q, 2, none⟩ (.string xa)).cell? ⟨P, 0, none⟩ = some (.int .i64 t) := by (go_simp; done)
  have np1 : (((w3.setCell ⟨Q, 0, none⟩ (.int .i64 t)).setCell ⟨Q, 1, none⟩ (.int .i64 n)).setCell ⟨Q, 2, none⟩ (.string xa)).cell? ⟨P, 1, none⟩ = some (.int .i64 n) := by (go_simp; done)
  have np2 : (((w3.setCell ⟨Q, 0, none⟩ (.int .i64 t)).setCell ⟨Q, 1, none⟩ (.int .i64 n)).setCell ⟨Q, 2, none⟩ (.string xa)).cell? ⟨P, 2, none⟩ = some (.string xa) := by (go_simp; done)
  have nq0 : (((w3.setCell ⟨Q, 0, none⟩ (.int .i64 t)).setCell ⟨Q, 1, none⟩ (.int .i64 n)).setCell ⟨Q, 2, none⟩ (.string xa)).cell? ⟨Q, 0, none⟩ = some (.int .i64 t) := by (go_simp; done)
  have nq1 : (((w3.setCell ⟨Q, 0, none⟩ (.int .i64 t)).setCell ⟨Q, 1, none⟩ (.int .i64 n)).setCell ⟨Q, 2, none⟩ (.string xa)).cell? ⟨Q, 1, none⟩ = some (.int .i64 n) := by (go_simp; done)
  have nq2 : (((w3.setCell ⟨Q, 0, none⟩ (.int .i64 t)).setCell ⟨Q, 1, none⟩ (.int .i64 n)).setCell ⟨Q, 2, none⟩ (.string xa)).cell? ⟨Q, 2, none⟩ = some (.string xa) := by (go_simp; done)
  have nf0 : ∀ k, (((w3.setCell ⟨Q, 0, none⟩ (.int .i64 t)).setCell ⟨Q, 1, none⟩ (.int .i64 n)).setCell ⟨Q, 2, none⟩ (.string xa)).frozen? ⟨P, k, none⟩ = false := fun k => by simp [f0]
  have ng0 : ∀ k, (((w3.setCell ⟨Q, 0, none⟩ (.int .i64 t)).setCell ⟨Q, 1, none⟩ (.int .i64 n)).setCell ⟨Q, 2, none⟩ (.string xa)).frozen? ⟨Q, k, none⟩ = false := fun k => by simp [g0]
  have nhz : Q < (((w3.setCell ⟨Q, 0, none⟩ (.int .i64 t)).setCell ⟨Q, 1, none⟩ (.int .i64 n)).setCell ⟨Q, 2, none⟩ (.string xa)).heap.size := by simpa using hz
  have nB : Below w.heap.size w (((w3.setCell ⟨Q, 0, none⟩ (.int .i64 t)).setCell ⟨Q, 1, none⟩ (.int .i64 n)).setCell ⟨Q, 2, none⟩ (.string xa)) := ((B.setCell (p := ⟨Q, 0, none⟩) hwQ _).setCell (p := ⟨Q, 1, none⟩) hwQ _).setCell (p := ⟨Q, 2, none⟩) hwQ _
  refine (text_any _ _).mono ?_
  rintro e w4 ⟨rfl, hb⟩
  have d10 := keep_cell hb (Nat.lt_trans hPQ nhz) np0
  have d11 := keep_cell hb (Nat.lt_trans hPQ nhz) np1
  have d12 := keep_cell hb (Nat.lt_trans hPQ nhz) np2
  have d20 := keep_cell hb nhz nq0
  have d21 := keep_cell hb nhz nq1
  have d22 := keep_cell hb nhz nq2
  replace B := nB.trans (hb.mono nB.size)
  have y2 := Nat.lt_of_lt_of_le nhz hb.size
  have y1 : P < w4.heap.size := Nat.lt_trans hPQ y2
  clear hb nB nhz nf0 ng0 np0 np1 np2 nq0 nq1 nq2 p0 p1 p2 q0 q1 q2 f0 g0 hz
  go_wp2_with fail
  refine (text_any _ _).mono ?_
  rintro e x11 ⟨rfl, hb⟩
  replace d10 := up_cell hb y1 d10
  replace d11 := up_cell hb y1 d11
  replace d12 := up_cell hb y1 d12
  replace y1 := up_size hb (Nat.le_of_lt y1)
  replace d20 := up_cell hb y2 d20
  replace d21 := up_cell hb y2 d21
  replace d22 := up_cell hb y2 d22
  replace y2 := up_size hb (Nat.le_of_lt y2)
  obtain ⟨d30, d31, d32⟩ := new_cell hb
  have y3 : w4.heap.size < x11.heap.size := up_size hb (Nat.le_refl _)
  replace B := up_below hb B
  clear hb
  go_wp2_with fail
  refine (bin_long xa xa hla hla hl _).mono ?_
  rintro e x12 ⟨rfl, hb⟩
  replace d10 := up_cell hb y1 d10
  replace d11 := up_cell hb y1 d11
  replace d12 := up_cell hb y1 d12
  replace y1 := up_size hb (Nat.le_of_lt y1)
  replace d20 := up_cell hb y2 d20
  replace d21 := up_cell hb y2 d21
  replace d22 := up_cell hb y2 d22
  replace y2 := up_size hb (Nat.le_of_lt y2)
  replace d30 := up_cell hb y3 d30
  replace d31 := up_cell hb y3 d31
  replace d32 := up_cell hb y3 d32
  replace y3 := up_size hb (Nat.le_of_lt y3)
  obtain ⟨d40, d41, d42⟩ := new_cell hb
  have y4 : x11.heap.size < x12.heap.size := up_size hb (Nat.le_refl _)
  replace B := up_below hb B
  clear hb
  have hI : ¬ (xa.size : Int) + (xa.size : Int) ≤ 40 := by omega
  have hI1 : (xa.size : Int) ≤ 60 := by omega
  have hI3 : decide ((xa.size : Int) + (xa.size : Int) ≤ 40) = false := by simpa using hI
  go_wp2_with fail
  refine (MA'.out _).mono ?_
  rintro e x13 ⟨rfl, hb⟩
  replace d10 := up_cell hb y1 d10
  replace d11 := up_cell hb y1 d11
  replace d12 := up_cell hb y1 d12
  replace y1 := up_size hb (Nat.le_of_lt y1)
  replace d20 := up_cell hb y2 d20
  replace d21 := up_cell hb y2 d21
  replace d22 := up_cell hb y2 d22
  replace y2 := up_size hb (Nat.le_of_lt y2)
  replace d30 := up_cell hb y3 d30
  replace d31 := up_cell hb y3 d31
  replace d32 := up_cell hb y3 d32
  replace y3 := up_size hb (Nat.le_of_lt y3)
  replace d40 := up_cell hb y4 d40
  replace d41 := up_cell hb y4 d41
  replace d42 := up_cell hb y4 d42
  replace y4 := up_size hb (Nat.le_of_lt y4)
  obtain ⟨d50, d51, d52⟩ := new_cell hb
  have y5 : x12.heap.size < x13.heap.size := up_size hb (Nat.le_refl _)
  replace B := up_below hb B
  clear hb
  clear hI hI3
  go_wp2_with fail
  refine (MA'.out _).mono ?_
  rintro e x14 ⟨rfl, hb⟩
  replace d10 := keep_cell hb y1 d10
  replace d11 := keep_cell hb y1 d11
  replace d12 := keep_cell hb y1 d12
  replace y1 := Nat.lt_of_lt_of_le y1 hb.size
  replace d20 := keep_cell hb y2 d20
  replace d21 := keep_cell hb y2 d21
  replace d22 := keep_cell hb y2 d22
  replace y2 := Nat.lt_of_lt_of_le y2 hb.size
  replace d30 := keep_cell hb y3 d30
  replace d31 := keep_cell hb y3 d31
  replace d32 := keep_cell hb y3 d32
  replace y3 := Nat.lt_of_lt_of_le y3 hb.size
  replace d40 := keep_cell hb y4 d40
  replace d41 := keep_cell hb y4 d41
  replace d42 := keep_cell hb y4 d42
  replace y4 := Nat.lt_of_lt_of_le y4 hb.size
  replace d50 := keep_cell hb y5 d50
  replace d51 := keep_cell hb y5 d51
  replace d52 := keep_cell hb y5 d52
  replace y5 := Nat.lt_of_lt_of_le y5 hb.size
  replace B := keep_below B hb
  clear hb
  go_wp2_with fail
  refine (BE'.out _).mono ?_
  rintro e x15 ⟨rfl, hb⟩
  replace d10 := keep_cell hb y1 d10
  replace d11 := keep_cell hb y1 d11
  replace d12 := keep_cell hb y1 d12
  replace y1 := Nat.lt_of_lt_of_le y1 hb.size
  replace d20 := keep_cell hb y2 d20
  replace d21 := keep_cell hb y2 d21
  replace d22 := keep_cell hb y2 d22
  replace y2 := Nat.lt_of_lt_of_le y2 hb.size
  replace d30 := keep_cell hb y3 d30
  replace d31 := keep_cell hb y3 d31
  replace d32 := keep_cell hb y3 d32
  replace y3 := Nat.lt_of_lt_of_le y3 hb.size
  replace d40 := keep_cell hb y4 d40
  replace d41 := keep_cell hb y4 d41
  replace d42 := keep_cell hb y4 d42
  replace y4 := Nat.lt_of_lt_of_le y4 hb.size
  replace d50 := keep_cell hb y5 d50
  replace d51 := keep_cell hb y5 d51
  replace d52 := keep_cell hb y5 d52
  replace y5 := Nat.lt_of_lt_of_le y5 hb.size
  replace B := keep_below B hb
  clear hb
  go_wp2_with fail
  refine (BN'.out _).mono ?_
  rintro e x16 ⟨rfl, hb⟩
  replace d10 := up_cell hb y1 d10
  replace d11 := up_cell hb y1 d11
  replace d12 := up_cell hb y1 d12
  replace y1 := up_size hb (Nat.le_of_lt y1)
  replace d20 := up_cell hb y2 d20
  replace d21 := up_cell hb y2 d21
  replace d22 := up_cell hb y2 d22
  replace y2 := up_size hb (Nat.le_of_lt y2)
  replace d30 := up_cell hb y3 d30
  replace d31 := up_cell hb y3 d31
  replace d32 := up_cell hb y3 d32
  replace y3 := up_size hb (Nat.le_of_lt y3)
  replace d40 := up_cell hb y4 d40
  replace d41 := up_cell hb y4 d41
  replace d42 := up_cell hb y4 d42
  replace y4 := up_size hb (Nat.le_of_lt y4)
  replace d50 := up_cell hb y5 d50
  replace d51 := up_cell hb y5 d51
  replace d52 := up_cell hb y5 d52
  replace y5 := up_size hb (Nat.le_of_lt y5)
  obtain ⟨d60, d61, d62⟩ := new_cell hb
  have y6 : x15.heap.size < x16.heap.size := up_size hb (Nat.le_refl _)
  replace B := up_below hb B
  clear hb
  go_upto_region 13 with fail
  obtain ⟨W16, hW⟩ : ∃ W : World, W = x16.alloc (.cells #[.int .i64 2, .int .i64 0, .string { data := #[] }] 23) := ⟨_, rfl⟩
  replace d10 : W16.cell? ⟨P, 0, none⟩ = _ := (congrArg (fun W : World => W.cell? ⟨P, 0, none⟩) hW).trans (at_alloc y1 d10)
  replace d11 : W16.cell? ⟨P, 1, none⟩ = _ := (congrArg (fun W : World => W.cell? ⟨P, 1, none⟩) hW).trans (at_alloc y1 d11)
  replace d12 : W16.cell? ⟨P, 2, none⟩ = _ := (congrArg (fun W : World => W.cell? ⟨P, 2, none⟩) hW).trans (at_alloc y1 d12)
  replace y1 : P < W16.heap.size := by rw [hW]; simp; omega
  replace d20 : W16.cell? ⟨Q, 0, none⟩ = _ := (congrArg (fun W : World => W.cell? ⟨Q, 0, none⟩) hW).trans (at_alloc y2 d20)
  replace d21 : W16.cell? ⟨Q, 1, none⟩ = _ := (congrArg (fun W : World => W.cell? ⟨Q, 1, none⟩) hW).trans (at_alloc y2 d21)
  replace d22 : W16.cell? ⟨Q, 2, none⟩ = _ := (congrArg (fun W : World => W.cell? ⟨Q, 2, none⟩) hW).trans (at_alloc y2 d22)
  replace y2 : Q < W16.heap.size := by rw [hW]; simp; omega
  replace d30 : W16.cell? ⟨w4.heap.size, 0, none⟩ = _ := (congrArg (fun W : World => W.cell? ⟨w4.heap.size, 0, none⟩) hW).trans (at_alloc y3 d30)
  replace d31 : W16.cell? ⟨w4.heap.size, 1, none⟩ = _ := (congrArg (fun W : World => W.cell? ⟨w4.heap.size, 1, none⟩) hW).trans (at_alloc y3 d31)
  replace d32 : W16.cell? ⟨w4.heap.size, 2, none⟩ = _ := (congrArg (fun W : World => W.cell? ⟨w4.heap.size, 2, none⟩) hW).trans (at_alloc y3 d32)
  replace y3 : w4.heap.size < W16.heap.size := by rw [hW]; simp; omega
  replace d40 : W16.cell? ⟨x11.heap.size, 0, none⟩ = _ := (congrArg (fun W : World => W.cell? ⟨x11.heap.size, 0, none⟩) hW).trans (at_alloc y4 d40)
  replace d41 : W16.cell? ⟨x11.heap.size, 1, none⟩ = _ := (congrArg (fun W : World => W.cell? ⟨x11.heap.size, 1, none⟩) hW).trans (at_alloc y4 d41)
  replace d42 : W16.cell? ⟨x11.heap.size, 2, none⟩ = _ := (congrArg (fun W : World => W.cell? ⟨x11.heap.size, 2, none⟩) hW).trans (at_alloc y4 d42)
  replace y4 : x11.heap.size < W16.heap.size := by rw [hW]; simp; omega
  replace d50 : W16.cell? ⟨x12.heap.size, 0, none⟩ = _ := (congrArg (fun W : World => W.cell? ⟨x12.heap.size, 0, none⟩) hW).trans (at_alloc y5 d50)
  replace d51 : W16.cell? ⟨x12.heap.size, 1, none⟩ = _ := (congrArg (fun W : World => W.cell? ⟨x12.heap.size, 1, none⟩) hW).trans (at_alloc y5 d51)
  replace d52 : W16.cell? ⟨x12.heap.size, 2, none⟩ = _ := (congrArg (fun W : World => W.cell? ⟨x12.heap.size, 2, none⟩) hW).trans (at_alloc y5 d52)
  replace y5 : x12.heap.size < W16.heap.size := by rw [hW]; simp; omega
  replace d60 : W16.cell? ⟨x15.heap.size, 0, none⟩ = _ := (congrArg (fun W : World => W.cell? ⟨x15.heap.size, 0, none⟩) hW).trans (at_alloc y6 d60)
  replace d61 : W16.cell? ⟨x15.heap.size, 1, none⟩ = _ := (congrArg (fun W : World => W.cell? ⟨x15.heap.size, 1, none⟩) hW).trans (at_alloc y6 d61)
  replace d62 : W16.cell? ⟨x15.heap.size, 2, none⟩ = _ := (congrArg (fun W : World => W.cell? ⟨x15.heap.size, 2, none⟩) hW).trans (at_alloc y6 d62)
  replace y6 : x15.heap.size < W16.heap.size := by rw [hW]; simp; omega
  obtain ⟨d70, d71, d72⟩ : W16.cell? ⟨x16.heap.size, 0, none⟩ = some (.int .i64 2) ∧ W16.cell? ⟨x16.heap.size, 1, none⟩ = some (.int .i64 0) ∧ W16.cell? ⟨x16.heap.size, 2, none⟩ = some (.string { data := #[] }) := by rw [hW]; exact at_new
  have y7 : x16.heap.size < W16.heap.size := by rw [hW]; simp
  replace B : Below w.heap.size w W16 := by rw [hW]; exact B.alloc B.size _
  rw [← hW]
  clear hW
  clear d30 d31 d32 y3
  clear d40 d41 d42 y4
  clear d50 d51 d52 y5
  have mk : ∀ w' : World, Below W16.heap.size W16 w' → (w'.cell? ⟨P, 0, none⟩ = some (.int .i64 t) ∧ w'.cell? ⟨P, 1, none⟩ = some (.int .i64 n) ∧ w'.cell? ⟨P, 2, none⟩ = some (.string xa) ∧ w'.cell? ⟨Q, 0, none⟩ = some (.int .i64 t) ∧ w'.cell? ⟨Q, 1, none⟩ = some (.int .i64 n) ∧ w'.cell? ⟨Q, 2, none⟩ = some (.string xa) ∧ w'.cell? ⟨x15.heap.size, 0, none⟩ = some (.int .i64 2) ∧ w'.cell? ⟨x15.heap.size, 1, none⟩ = some (.int .i64 1) ∧ w'.cell? ⟨x15.heap.size, 2, none⟩ = some (.string { data := #[] }) ∧ w'.cell? ⟨x16.heap.size, 0, none⟩ = some (.int .i64 2) ∧ w'.cell? ⟨x16.heap.size, 1, none⟩ = some (.int .i64 0) ∧ w'.cell? ⟨x16.heap.size, 2, none⟩ = some (.string { data := #[] }) ∧ Below W16.heap.size W16 w') := fun w' h => ⟨keep_cell h y1 d10, keep_cell h y1 d11, keep_cell h y1 d12, keep_cell h y2 d20, keep_cell h y2 d21, keep_cell h y2 d22, keep_cell h y6 d60, keep_cell h y6 d61, keep_cell h y6 d62, keep_cell h y7 d70, keep_cell h y7 d71, keep_cell h y7 d72, h⟩
  have MK := Lib.hid mk
  clear mk
  refine wp_region_held_drew (S := fun w' => w'.cell? ⟨P, 0, none⟩ = some (.int .i64 t) ∧ w'.cell? ⟨P, 1, none⟩ = some (.int .i64 n) ∧ w'.cell? ⟨P, 2, none⟩ = some (.string xa) ∧ w'.cell? ⟨Q, 0, none⟩ = some (.int .i64 t) ∧ w'.cell? ⟨Q, 1, none⟩ = some (.int .i64 n) ∧ w'.cell? ⟨Q, 2, none⟩ = some (.string xa) ∧ w'.cell? ⟨x15.heap.size, 0, none⟩ = some (.int .i64 2) ∧ w'.cell? ⟨x15.heap.size, 1, none⟩ = some (.int .i64 1) ∧ w'.cell? ⟨x15.heap.size, 2, none⟩ = some (.string { data := #[] }) ∧ w'.cell? ⟨x16.heap.size, 0, none⟩ = some (.int .i64 2) ∧ w'.cell? ⟨x16.heap.size, 1, none⟩ = some (.int .i64 0) ∧ w'.cell? ⟨x16.heap.size, 2, none⟩ = some (.string { data := #[] }) ∧ Below W16.heap.size W16 w') (by kernel_rfl) (MK.out _ (Below.drew (Below.refl _ _))) (fun hHeld => ?_)
  refine wpAnyH_take (i := 0) (v := ?_) rfl (by kernel_rfl) (by kernel_rfl) (by kernel_rfl) (fun _ _ _ h => h) (Or.inl ⟨by rfl, ?_⟩) (by assumption) ?_
  rotate_left
  · (intro w' hSw; (try dsimp only at hSw); go_simp; (try (with_reducible rfl)))
  simp only [Act.put, List.getElem_toArray, List.getElem_cons_zero, List.setIfInBounds_toArray, List.set_cons_succ, List.set_cons_zero]
  refine wpAnyH_take (i := 1) (v := ?_) rfl (by kernel_rfl) (by kernel_rfl) (by kernel_rfl) (fun _ _ _ h => h) (Or.inl ⟨by rfl, ?_⟩) (by assumption) ?_
  rotate_left
  · (intro w' hSw; (try dsimp only at hSw); go_simp; (try (with_reducible rfl)))
  simp only [Act.put, List.getElem_toArray, List.getElem_cons_succ, List.getElem_cons_zero, List.setIfInBounds_toArray, List.set_cons_succ, List.set_cons_zero]
  refine wpAnyH_take (i := 2) (v := ?_) rfl (by kernel_rfl) (by kernel_rfl) (by kernel_rfl) (fun _ _ _ h => h) (Or.inl ⟨by rfl, ?_⟩) (by assumption) ?_
  rotate_left
  · (intro w' hSw; (try dsimp only at hSw); go_simp; (try (with_reducible rfl)))
  simp only [Act.put, List.getElem_toArray, List.getElem_cons_succ, List.getElem_cons_zero, List.setIfInBounds_toArray, List.set_cons_succ, List.set_cons_zero]
  refine wpAnyH_take (i := 3) (v := ?_) rfl (by kernel_rfl) (by kernel_rfl) (by kernel_rfl) (fun _ _ _ h => h) (Or.inl ⟨by rfl, ?_⟩) (by assumption) ?_
  rotate_left
  · (intro w' hSw; (try dsimp only at hSw); go_simp; (try (with_reducible rfl)))
  simp only [Act.put, List.getElem_toArray, List.getElem_cons_succ, List.getElem_cons_zero, List.setIfInBounds_toArray, List.set_cons_succ, List.set_cons_zero]
  refine wpAnyH_take (i := 4) (v := ?_) rfl (by kernel_rfl) (by kernel_rfl) (by kernel_rfl) (fun _ _ _ h => h) (Or.inl ⟨by rfl, ?_⟩) (by assumption) ?_
  rotate_left
  · (intro w' hSw; (try dsimp only at hSw); go_simp; (try (with_reducible rfl)))
  simp only [Act.put, List.getElem_toArray, List.getElem_cons_succ, List.getElem_cons_zero, List.setIfInBounds_toArray, List.set_cons_succ, List.set_cons_zero]
  refine wpAnyH_take (i := 5) (v := ?_) rfl (by kernel_rfl) (by kernel_rfl) (by kernel_rfl) (fun _ _ _ h => h) (Or.inl ⟨by rfl, ?_⟩) (by assumption) ?_
  rotate_left
  · (intro w' hSw; (try dsimp only at hSw); go_simp; (try (with_reducible rfl)))
  simp only [Act.put, List.getElem_toArray, List.getElem_cons_succ, List.getElem_cons_zero, List.setIfInBounds_toArray, List.set_cons_succ, List.set_cons_zero]
  refine wpAnyH_take (i := 6) (v := ?_) rfl (by kernel_rfl) (by kernel_rfl) (by kernel_rfl) (fun _ _ _ h => h) (Or.inl ⟨by rfl, ?_⟩) (by assumption) ?_
  rotate_left
  · (intro w' hSw; (try dsimp only at hSw); go_simp; (try (with_reducible rfl)))
  simp only [Act.put, List.getElem_toArray, List.getElem_cons_succ, List.getElem_cons_zero, List.setIfInBounds_toArray, List.set_cons_succ, List.set_cons_zero]
  refine wpAnyH_take (i := 7) (v := ?_) rfl (by kernel_rfl) (by kernel_rfl) (by kernel_rfl) (fun _ _ _ h => h) (Or.inl ⟨by rfl, ?_⟩) (by assumption) ?_
  rotate_left
  · (intro w' hSw; (try dsimp only at hSw); go_simp; (try (with_reducible rfl)))
  simp only [Act.put, List.getElem_toArray, List.getElem_cons_succ, List.getElem_cons_zero, List.setIfInBounds_toArray, List.set_cons_succ, List.set_cons_zero]
  refine wpAnyH_take (i := 8) (v := ?_) rfl (by kernel_rfl) (by kernel_rfl) (by kernel_rfl) (fun _ _ _ h => h) (Or.inl ⟨by rfl, ?_⟩) (by assumption) ?_
  rotate_left
  · (intro w' hSw; (try dsimp only at hSw); go_simp; (try (with_reducible rfl)))
  simp only [Act.put, List.getElem_toArray, List.getElem_cons_succ, List.getElem_cons_zero, List.setIfInBounds_toArray, List.set_cons_succ, List.set_cons_zero]
  refine wpAnyH_ready (rs := [9]) (by kernel_rfl) (by simp) ?_
  refine AllReadyH.cons rfl (fun K hK => ?_) AllReadyH.nil
  go_simp
  (go_at_call 23; refine (logic.sign_not0 _).mono ?_; rintro e w4 ⟨rfl, hb4⟩; (try go_simp))
  refine hK.out _ _ ?_ (fun hHeld => ?_)
  · (try dsimp only); exact MK.out _ (keep_below hHeld.2.2.2.2.2.2.2.2.2.2.2.2 hb4)
  clear hK K
  refine wpAnyH_take (i := 10) (v := ?_) rfl (by kernel_rfl) (by kernel_rfl) (by kernel_rfl) (fun _ _ _ h => h) (Or.inl ⟨by rfl, ?_⟩) (by assumption) ?_
  rotate_left
  · (intro w' hSw; (try dsimp only at hSw); go_simp; (try (with_reducible rfl)))
  simp only [Act.put, List.getElem_toArray, List.getElem_cons_succ, List.getElem_cons_zero, List.setIfInBounds_toArray, List.set_cons_succ, List.set_cons_zero]
  refine wpAnyH_take (i := 11) (v := ?_) rfl (by kernel_rfl) (by kernel_rfl) (by kernel_rfl) (fun _ _ _ h => h) (Or.inl ⟨by rfl, ?_⟩) (by assumption) ?_
  rotate_left
  · (intro w' hSw; (try dsimp only at hSw); go_simp; (try (with_reducible rfl)))
  simp only [Act.put, List.getElem_toArray, List.getElem_cons_succ, List.getElem_cons_zero, List.setIfInBounds_toArray, List.set_cons_succ, List.set_cons_zero]
  refine wpAnyH_take (i := 12) (v := ?_) rfl (by kernel_rfl) (by kernel_rfl) (by kernel_rfl) (fun _ _ _ h => h) (Or.inl ⟨by rfl, ?_⟩) (by assumption) ?_
  rotate_left
  · (intro w' hSw; (try dsimp only at hSw); go_simp; (try (with_reducible rfl)))
  simp only [Act.put, List.getElem_toArray, List.getElem_cons_succ, List.getElem_cons_zero, List.setIfInBounds_toArray, List.set_cons_succ, List.set_cons_zero]
  refine wpAnyH_take (i := 13) (v := ?_) rfl (by kernel_rfl) (by kernel_rfl) (by kernel_rfl) (fun _ _ _ h => h) (Or.inl ⟨by rfl, ?_⟩) (by assumption) ?_
  rotate_left
  · (intro w' hSw; (try dsimp only at hSw); go_simp; (try (with_reducible rfl)))
  simp only [Act.put, List.getElem_toArray, List.getElem_cons_succ, List.getElem_cons_zero, List.setIfInBounds_toArray, List.set_cons_succ, List.set_cons_zero]
  refine wpAnyH_take (i := 14) (v := ?_) rfl (by kernel_rfl) (by kernel_rfl) (by kernel_rfl) (fun _ _ _ h => h) (Or.inl ⟨by rfl, ?_⟩) (by assumption) ?_
  rotate_left
  · (intro w' hSw; (try dsimp only at hSw); go_simp; (try (with_reducible rfl)))
  simp only [Act.put, List.getElem_toArray, List.getElem_cons_succ, List.getElem_cons_zero, List.setIfInBounds_toArray, List.set_cons_succ, List.set_cons_zero]
  refine wpAnyH_take (i := 15) (v := ?_) rfl (by kernel_rfl) (by kernel_rfl) (by kernel_rfl) (fun _ _ _ h => h) (Or.inl ⟨by rfl, ?_⟩) (by assumption) ?_
  rotate_left
  · (intro w' hSw; (try dsimp only at hSw); go_simp; (try (with_reducible rfl)))
  simp only [Act.put, List.getElem_toArray, List.getElem_cons_succ, List.getElem_cons_zero, List.setIfInBounds_toArray, List.set_cons_succ, List.set_cons_zero]
  refine wpAnyH_take (i := 16) (v := ?_) rfl (by kernel_rfl) (by kernel_rfl) (by kernel_rfl) (fun _ _ _ h => h) (Or.inl ⟨by rfl, ?_⟩) (by assumption) ?_
  rotate_left
  · (intro w' hSw; (try dsimp only at hSw); go_simp; (try (with_reducible rfl)))
  simp only [Act.put, List.getElem_toArray, List.getElem_cons_succ, List.getElem_cons_zero, List.setIfInBounds_toArray, List.set_cons_succ, List.set_cons_zero]
  refine wpAnyH_take (i := 17) (v := ?_) rfl (by kernel_rfl) (by kernel_rfl) (by kernel_rfl) (fun _ _ _ h => h) (Or.inl ⟨by rfl, ?_⟩) (by assumption) ?_
  rotate_left
  · (intro w' hSw; (try dsimp only at hSw); go_simp; (try (with_reducible rfl)))
  simp only [Act.put, List.getElem_toArray, List.getElem_cons_succ, List.getElem_cons_zero, List.setIfInBounds_toArray, List.set_cons_succ, List.set_cons_zero]
  refine wpAnyH_take (i := 18) (v := ?_) rfl (by kernel_rfl) (by kernel_rfl) (by kernel_rfl) (fun _ _ _ h => h) (Or.inl ⟨by rfl, ?_⟩) (by assumption) ?_
  rotate_left
  · (intro w' hSw; (try dsimp only at hSw); go_simp; (try (with_reducible rfl)))
  simp only [Act.put, List.getElem_toArray, List.getElem_cons_succ, List.getElem_cons_zero, List.setIfInBounds_toArray, List.set_cons_succ, List.set_cons_zero]
  refine wpAnyH_take (i := 19) (v := ?_) rfl (by kernel_rfl) (by kernel_rfl) (by kernel_rfl) (fun _ _ _ h => h) (Or.inl ⟨by rfl, ?_⟩) (by assumption) ?_
  rotate_left
  · (intro w' hSw; (try dsimp only at hSw); go_simp; (try (with_reducible rfl)))
  simp only [Act.put, List.getElem_toArray, List.getElem_cons_succ, List.getElem_cons_zero, List.setIfInBounds_toArray, List.set_cons_succ, List.set_cons_zero]
  refine wpAnyH_take (i := 20) (v := ?_) rfl (by kernel_rfl) (by kernel_rfl) (by kernel_rfl) (fun _ _ _ h => h) (Or.inl ⟨by rfl, ?_⟩) (by assumption) ?_
  rotate_left
  · (intro w' hSw; (try dsimp only at hSw); go_simp; (try (with_reducible rfl)))
  simp only [Act.put, List.getElem_toArray, List.getElem_cons_succ, List.getElem_cons_zero, List.setIfInBounds_toArray, List.set_cons_succ, List.set_cons_zero]
  refine wpAnyH_done (by kernel_rfl) ?_ _
  have hb : Below W16.heap.size W16 w4 := (by assumption : w4.cell? ⟨P, 0, none⟩ = some (.int .i64 t) ∧ w4.cell? ⟨P, 1, none⟩ = some (.int .i64 n) ∧ w4.cell? ⟨P, 2, none⟩ = some (.string xa) ∧ w4.cell? ⟨Q, 0, none⟩ = some (.int .i64 t) ∧ w4.cell? ⟨Q, 1, none⟩ = some (.int .i64 n) ∧ w4.cell? ⟨Q, 2, none⟩ = some (.string xa) ∧ w4.cell? ⟨x15.heap.size, 0, none⟩ = some (.int .i64 2) ∧ w4.cell? ⟨x15.heap.size, 1, none⟩ = some (.int .i64 1) ∧ w4.cell? ⟨x15.heap.size, 2, none⟩ = some (.string { data := #[] }) ∧ w4.cell? ⟨x16.heap.size, 0, none⟩ = some (.int .i64 2) ∧ w4.cell? ⟨x16.heap.size, 1, none⟩ = some (.int .i64 0) ∧ w4.cell? ⟨x16.heap.size, 2, none⟩ = some (.string { data := #[] }) ∧ Below W16.heap.size W16 w4).2.2.2.2.2.2.2.2.2.2.2.2
  replace d10 := keep_cell hb y1 d10
  replace d11 := keep_cell hb y1 d11
  replace d12 := keep_cell hb y1 d12
  replace y1 := Nat.lt_of_lt_of_le y1 hb.size
  replace d20 := keep_cell hb y2 d20
  replace d21 := keep_cell hb y2 d21
  replace d22 := keep_cell hb y2 d22
  replace y2 := Nat.lt_of_lt_of_le y2 hb.size
  replace d60 := keep_cell hb y6 d60
  replace d61 := keep_cell hb y6 d61
  replace d62 := keep_cell hb y6 d62
  replace y6 := Nat.lt_of_lt_of_le y6 hb.size
  replace d70 := keep_cell hb y7 d70
  replace d71 := keep_cell hb y7 d71
  replace d72 := keep_cell hb y7 d72
  replace y7 := Nat.lt_of_lt_of_le y7 hb.size
  replace B := keep_below B hb
  clear hb
  clear MK
  obtain ⟨V5, hV5⟩ : ∃ V5 : World, V5 = w4 := ⟨_, rfl⟩
  subst hV5
  go_upto_region 15 with fail
  have HTV : Hid (TabW V5) := HT.out.below B HT.out.2
  clear d60 d61 d62 y6
  clear d70 d71 d72 y7
  have mk : ∀ w' : World, Below V5.heap.size V5 w' → (w'.cell? ⟨P, 0, none⟩ = some (.int .i64 t) ∧ w'.cell? ⟨P, 1, none⟩ = some (.int .i64 n) ∧ w'.cell? ⟨P, 2, none⟩ = some (.string xa) ∧ w'.cell? ⟨Q, 0, none⟩ = some (.int .i64 t) ∧ w'.cell? ⟨Q, 1, none⟩ = some (.int .i64 n) ∧ w'.cell? ⟨Q, 2, none⟩ = some (.string xa) ∧ Below V5.heap.size V5 w') := fun w' h => ⟨keep_cell h y1 d10, keep_cell h y1 d11, keep_cell h y1 d12, keep_cell h y2 d20, keep_cell h y2 d21, keep_cell h y2 d22, h⟩
  have MK := Lib.hid mk
  clear mk
  refine wp_region_held_drew (S := fun w' => w'.cell? ⟨P, 0, none⟩ = some (.int .i64 t) ∧ w'.cell? ⟨P, 1, none⟩ = some (.int .i64 n) ∧ w'.cell? ⟨P, 2, none⟩ = some (.string xa) ∧ w'.cell? ⟨Q, 0, none⟩ = some (.int .i64 t) ∧ w'.cell? ⟨Q, 1, none⟩ = some (.int .i64 n) ∧ w'.cell? ⟨Q, 2, none⟩ = some (.string xa) ∧ Below V5.heap.size V5 w') (by kernel_rfl) (MK.out _ (Below.drew (Below.refl _ _))) (fun hHeld => ?_)
  refine wpAnyH_take (i := 0) (v := ?_) rfl (by kernel_rfl) (by kernel_rfl) (by kernel_rfl) (fun _ _ _ h => h) (Or.inl ⟨by rfl, ?_⟩) (by assumption) ?_
  rotate_left
  · (intro w' hSw; (try dsimp only at hSw); go_simp; (try (with_reducible rfl)))
  simp only [Act.put, List.getElem_toArray, List.getElem_cons_zero, List.setIfInBounds_toArray, List.set_cons_succ, List.set_cons_zero]
  refine wpAnyH_take (i := 1) (v := ?_) rfl (by kernel_rfl) (by kernel_rfl) (by kernel_rfl) (fun _ _ _ h => h) (Or.inl ⟨by rfl, ?_⟩) (by assumption) ?_
  rotate_left
  · (intro w' hSw; (try dsimp only at hSw); go_simp; (try (with_reducible rfl)))
  simp only [Act.put, List.getElem_toArray, List.getElem_cons_succ, List.getElem_cons_zero, List.setIfInBounds_toArray, List.set_cons_succ, List.set_cons_zero]
  refine wpAnyH_take (i := 2) (v := ?_) rfl (by kernel_rfl) (by kernel_rfl) (by kernel_rfl) (fun _ _ _ h => h) (Or.inl ⟨by rfl, ?_⟩) (by assumption) ?_
  rotate_left
  · (intro w' hSw; (try dsimp only at hSw); go_simp; (try (with_reducible rfl)))
  simp only [Act.put, List.getElem_toArray, List.getElem_cons_succ, List.getElem_cons_zero, List.setIfInBounds_toArray, List.set_cons_succ, List.set_cons_zero]
  refine wpAnyH_take (i := 3) (v := ?_) rfl (by kernel_rfl) (by kernel_rfl) (by kernel_rfl) (fun _ _ _ h => h) (Or.inl ⟨by rfl, ?_⟩) (by assumption) ?_
  rotate_left
  · (intro w' hSw; (try dsimp only at hSw); go_simp; (try (with_reducible rfl)))
  simp only [Act.put, List.getElem_toArray, List.getElem_cons_succ, List.getElem_cons_zero, List.setIfInBounds_toArray, List.set_cons_succ, List.set_cons_zero]
  refine wpAnyH_take (i := 4) (v := ?_) rfl (by kernel_rfl) (by kernel_rfl) (by kernel_rfl) (fun _ _ _ h => h) (Or.inl ⟨by rfl, ?_⟩) (by assumption) ?_
  rotate_left
  · (intro w' hSw; (try dsimp only at hSw); go_simp; (try (with_reducible rfl)))
  simp only [Act.put, List.getElem_toArray, List.getElem_cons_succ, List.getElem_cons_zero, List.setIfInBounds_toArray, List.set_cons_succ, List.set_cons_zero]
  refine wpAnyH_take (i := 5) (v := ?_) rfl (by kernel_rfl) (by kernel_rfl) (by kernel_rfl) (fun _ _ _ h => h) (Or.inl ⟨by rfl, ?_⟩) (by assumption) ?_
  rotate_left
  · (intro w' hSw; (try dsimp only at hSw); go_simp; (try (with_reducible rfl)))
  simp only [Act.put, List.getElem_toArray, List.getElem_cons_succ, List.getElem_cons_zero, List.setIfInBounds_toArray, List.set_cons_succ, List.set_cons_zero]
  refine wpAnyH_take (i := 6) (v := ?_) rfl (by kernel_rfl) (by kernel_rfl) (by kernel_rfl) (fun _ _ _ h => h) (Or.inl ⟨by rfl, ?_⟩) (by assumption) ?_
  rotate_left
  · (intro w' hSw; (try dsimp only at hSw); go_simp; (try (with_reducible rfl)))
  simp only [Act.put, List.getElem_toArray, List.getElem_cons_succ, List.getElem_cons_zero, List.setIfInBounds_toArray, List.set_cons_succ, List.set_cons_zero]
  refine wpAnyH_take (i := 8) (v := ?_) rfl (by kernel_rfl) (by kernel_rfl) (by kernel_rfl) (fun _ _ _ h => h) (Or.inl ⟨by rfl, ?_⟩) (by assumption) ?_
  rotate_left
  · (intro w' hSw; (try dsimp only at hSw); go_simp; (try (with_reducible rfl)))
  simp only [Act.put, List.getElem_toArray, List.getElem_cons_succ, List.getElem_cons_zero, List.setIfInBounds_toArray, List.set_cons_succ, List.set_cons_zero]
  refine wpAnyH_take (i := 11) (v := ?_) rfl (by kernel_rfl) (by kernel_rfl) (by kernel_rfl) (fun _ _ _ h => h) (Or.inl ⟨by rfl, ?_⟩) (by assumption) ?_
  rotate_left
  · (intro w' hSw; (try dsimp only at hSw); go_simp; (try (with_reducible rfl)))
  simp only [Act.put, List.getElem_toArray, List.getElem_cons_succ, List.getElem_cons_zero, List.setIfInBounds_toArray, List.set_cons_succ, List.set_cons_zero]
  refine wpAnyH_take (i := 12) (v := ?_) rfl (by kernel_rfl) (by kernel_rfl) (by kernel_rfl) (fun _ _ _ h => h) (Or.inl ⟨by rfl, ?_⟩) (by assumption) ?_
  rotate_left
  · (intro w' hSw; (try dsimp only at hSw); go_simp; (try (with_reducible rfl)))
  simp only [Act.put, List.getElem_toArray, List.getElem_cons_succ, List.getElem_cons_zero, List.setIfInBounds_toArray, List.set_cons_succ, List.set_cons_zero]
  refine wpAnyH_take (i := 13) (v := ?_) rfl (by kernel_rfl) (by kernel_rfl) (by kernel_rfl) (fun _ _ _ h => h) (Or.inl ⟨by rfl, ?_⟩) (by assumption) ?_
  rotate_left
  · (intro w' hSw; (try dsimp only at hSw); go_simp; (try (with_reducible rfl)))
  simp only [Act.put, List.getElem_toArray, List.getElem_cons_succ, List.getElem_cons_zero, List.setIfInBounds_toArray, List.set_cons_succ, List.set_cons_zero]
  refine wpAnyH_ready (rs := [7]) (by kernel_rfl) (by simp) ?_
  refine AllReadyH.cons rfl (fun K hK => ?_) AllReadyH.nil
  go_simp
  (go_at_call 27; refine (WA'.out _ (HTV.out.below hHeld.2.2.2.2.2.2 HTV.out.2)).mono ?_; rintro e w4 ⟨rfl, hb4⟩; (try go_simp))
  refine hK.out _ _ ?_ (fun hHeld => ?_)
  · (try dsimp only); exact MK.out _ (keep_below hHeld.2.2.2.2.2.2 hb4)
  clear hK K
  refine wpAnyH_ready (rs := [9]) (by kernel_rfl) (by simp) ?_
  refine AllReadyH.cons rfl (fun K hK => ?_) AllReadyH.nil
  go_simp
  (go_at_call 27; refine (WA'.out _ (HTV.out.below hHeld.2.2.2.2.2.2 HTV.out.2)).mono ?_; rintro e w4 ⟨rfl, hb4⟩; (try go_simp))
  refine hK.out _ _ ?_ (fun hHeld => ?_)
  · (try dsimp only); exact MK.out _ (keep_below hHeld.2.2.2.2.2.2 hb4)
  clear hK K
  refine wpAnyH_take (i := 10) (v := ?_) rfl (by kernel_rfl) (by kernel_rfl) (by kernel_rfl) (fun _ _ _ h => h) (Or.inl ⟨by rfl, ?_⟩) (by assumption) ?_
  rotate_left
  · (intro w' hSw; (try dsimp only at hSw); go_simp; (try (with_reducible rfl)))
  simp only [Act.put, List.getElem_toArray, List.getElem_cons_succ, List.getElem_cons_zero, List.setIfInBounds_toArray, List.set_cons_succ, List.set_cons_zero]
  refine wpAnyH_take (i := 14) (v := ?_) rfl (by kernel_rfl) (by kernel_rfl) (by kernel_rfl) (fun _ _ _ h => h) (Or.inl ⟨by rfl, ?_⟩) (by assumption) ?_
  rotate_left
  · (intro w' hSw; (try dsimp only at hSw); go_simp; (try (with_reducible rfl)))
  simp only [Act.put, List.getElem_toArray, List.getElem_cons_succ, List.getElem_cons_zero, List.setIfInBounds_toArray, List.set_cons_succ, List.set_cons_zero]
  refine wpAnyH_take (i := 15) (v := ?_) rfl (by kernel_rfl) (by kernel_rfl) (by kernel_rfl) (fun _ _ _ h => h) (Or.inl ⟨by rfl, ?_⟩) (by assumption) ?_
  rotate_left
  · (intro w' hSw; (try dsimp only at hSw); go_simp; (try (with_reducible rfl)))
  simp only [Act.put, List.getElem_toArray, List.getElem_cons_succ, List.getElem_cons_zero, List.setIfInBounds_toArray, List.set_cons_succ, List.set_cons_zero]
  refine wpAnyH_take (i := 16) (v := ?_) rfl (by kernel_rfl) (by kernel_rfl) (by kernel_rfl) (fun _ _ _ h => h) (Or.inl ⟨by rfl, ?_⟩) (by assumption) ?_
  rotate_left
  · (intro w' hSw; (try dsimp only at hSw); go_simp; (try (with_reducible rfl)))
  simp only [Act.put, List.getElem_toArray, List.getElem_cons_succ, List.getElem_cons_zero, List.setIfInBounds_toArray, List.set_cons_succ, List.set_cons_zero]
  refine wpAnyH_take (i := 18) (v := ?_) rfl (by kernel_rfl) (by kernel_rfl) (by kernel_rfl) (fun _ _ _ h => h) (Or.inl ⟨by rfl, ?_⟩) (by assumption) ?_
  rotate_left
  · (intro w' hSw; (try dsimp only at hSw); go_simp; (try (with_reducible rfl)))
  simp only [Act.put, List.getElem_toArray, List.getElem_cons_succ, List.getElem_cons_zero, List.setIfInBounds_toArray, List.set_cons_succ, List.set_cons_zero]
  refine wpAnyH_take (i := 21) (v := ?_) rfl (by kernel_rfl) (by kernel_rfl) (by kernel_rfl) (fun _ _ _ h => h) (Or.inl ⟨by rfl, ?_⟩) (by assumption) ?_
  rotate_left
  · (intro w' hSw; (try dsimp only at hSw); go_simp; (try (with_reducible rfl)))
  simp only [Act.put, List.getElem_toArray, List.getElem_cons_succ, List.getElem_cons_zero, List.setIfInBounds_toArray, List.set_cons_succ, List.set_cons_zero]
  refine wpAnyH_take (i := 22) (v := ?_) rfl (by kernel_rfl) (by kernel_rfl) (by kernel_rfl) (fun _ _ _ h => h) (Or.inl ⟨by rfl, ?_⟩) (by assumption) ?_
  rotate_left
  · (intro w' hSw; (try dsimp only at hSw); go_simp; (try (with_reducible rfl)))
  simp only [Act.put, List.getElem_toArray, List.getElem_cons_succ, List.getElem_cons_zero, List.setIfInBounds_toArray, List.set_cons_succ, List.set_cons_zero]
  refine wpAnyH_take (i := 23) (v := ?_) rfl (by kernel_rfl) (by kernel_rfl) (by kernel_rfl) (fun _ _ _ h => h) (Or.inl ⟨by rfl, ?_⟩) (by assumption) ?_
  rotate_left
  · (intro w' hSw; (try dsimp only at hSw); go_simp; (try (with_reducible rfl)))
  simp only [Act.put, List.getElem_toArray, List.getElem_cons_succ, List.getElem_cons_zero, List.setIfInBounds_toArray, List.set_cons_succ, List.set_cons_zero]
  refine wpAnyH_ready (rs := [17]) (by kernel_rfl) (by simp) ?_
  refine AllReadyH.cons rfl (fun K hK => ?_) AllReadyH.nil
  go_simp
  (go_at_call 29; refine (QA'.out _ (HTV.out.below hHeld.2.2.2.2.2.2 HTV.out.2)).mono ?_; rintro e w4 ⟨rfl, hb4⟩; (try go_simp))
  refine hK.out _ _ ?_ (fun hHeld => ?_)
  · (try dsimp only); exact MK.out _ (keep_below hHeld.2.2.2.2.2.2 hb4)
  clear hK K
  refine wpAnyH_ready (rs := [19]) (by kernel_rfl) (by simp) ?_
  refine AllReadyH.cons rfl (fun K hK => ?_) AllReadyH.nil
  go_simp
  (go_at_call 29; refine (QA'.out _ (HTV.out.below hHeld.2.2.2.2.2.2 HTV.out.2)).mono ?_; rintro e w4 ⟨rfl, hb4⟩; (try go_simp))
  refine hK.out _ _ ?_ (fun hHeld => ?_)
  · (try dsimp only); exact MK.out _ (keep_below hHeld.2.2.2.2.2.2 hb4)
  clear hK K
  refine wpAnyH_take (i := 20) (v := ?_) rfl (by kernel_rfl) (by kernel_rfl) (by kernel_rfl) (fun _ _ _ h => h) (Or.inl ⟨by rfl, ?_⟩) (by assumption) ?_
  rotate_left
  · (intro w' hSw; (try dsimp only at hSw); go_simp; (try (with_reducible rfl)))
  simp only [Act.put, List.getElem_toArray, List.getElem_cons_succ, List.getElem_cons_zero, List.setIfInBounds_toArray, List.set_cons_succ, List.set_cons_zero]
  refine wpAnyH_take (i := 24) (v := ?_) rfl (by kernel_rfl) (by kernel_rfl) (by kernel_rfl) (fun _ _ _ h => h) (Or.inl ⟨by rfl, ?_⟩) (by assumption) ?_
  rotate_left
  · (intro w' hSw; (try dsimp only at hSw); go_simp; (try (with_reducible rfl)))
  simp only [Act.put, List.getElem_toArray, List.getElem_cons_succ, List.getElem_cons_zero, List.setIfInBounds_toArray, List.set_cons_succ, List.set_cons_zero]
  refine wpAnyH_take (i := 25) (v := ?_) rfl (by kernel_rfl) (by kernel_rfl) (by kernel_rfl) (fun _ _ _ h => h) (Or.inl ⟨by rfl, ?_⟩) (by assumption) ?_
  rotate_left
  · (intro w' hSw; (try dsimp only at hSw); go_simp; (try (with_reducible rfl)))
  simp only [Act.put, List.getElem_toArray, List.getElem_cons_succ, List.getElem_cons_zero, List.setIfInBounds_toArray, List.set_cons_succ, List.set_cons_zero]
  refine wpAnyH_take (i := 26) (v := ?_) rfl (by kernel_rfl) (by kernel_rfl) (by kernel_rfl) (fun _ _ _ h => h) (Or.inl ⟨by rfl, ?_⟩) (by assumption) ?_
  rotate_left
  · (intro w' hSw; (try dsimp only at hSw); go_simp; (try (with_reducible rfl)))
  simp only [Act.put, List.getElem_toArray, List.getElem_cons_succ, List.getElem_cons_zero, List.setIfInBounds_toArray, List.set_cons_succ, List.set_cons_zero]
  refine wpAnyH_take (i := 27) (v := ?_) rfl (by kernel_rfl) (by kernel_rfl) (by kernel_rfl) (fun _ _ _ h => h) (Or.inl ⟨by rfl, ?_⟩) (by assumption) ?_
  rotate_left
  · (intro w' hSw; (try dsimp only at hSw); go_simp; (try (with_reducible rfl)))
  simp only [Act.put, List.getElem_toArray, List.getElem_cons_succ, List.getElem_cons_zero, List.setIfInBounds_toArray, List.set_cons_succ, List.set_cons_zero]
  refine wpAnyH_take (i := 28) (v := ?_) rfl (by kernel_rfl) (by kernel_rfl) (by kernel_rfl) (fun _ _ _ h => h) (Or.inl ⟨by rfl, ?_⟩) (by assumption) ?_
  rotate_left
  · (intro w' hSw; (try dsimp only at hSw); go_simp; (try (with_reducible rfl)))
  simp only [Act.put, List.getElem_toArray, List.getElem_cons_succ, List.getElem_cons_zero, List.setIfInBounds_toArray, List.set_cons_succ, List.set_cons_zero]
  refine wpAnyH_done (by kernel_rfl) ?_ _
  have hb : Below V5.heap.size V5 w4 := (by assumption : w4.cell? ⟨P, 0, none⟩ = some (.int .i64 t) ∧ w4.cell? ⟨P, 1, none⟩ = some (.int .i64 n) ∧ w4.cell? ⟨P, 2, none⟩ = some (.string xa) ∧ w4.cell? ⟨Q, 0, none⟩ = some (.int .i64 t) ∧ w4.cell? ⟨Q, 1, none⟩ = some (.int .i64 n) ∧ w4.cell? ⟨Q, 2, none⟩ = some (.string xa) ∧ Below V5.heap.size V5 w4).2.2.2.2.2.2
  have HB := Lib.hid (keep_below B hb)
  clear hb
  go_wp2
  go_ret
  exact ⟨rfl, HB.out⟩

end Go.Proofs.YtpighdioomjnmaaDoor.textsof
