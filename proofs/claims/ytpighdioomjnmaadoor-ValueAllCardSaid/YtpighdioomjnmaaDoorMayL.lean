/-
  Layer 5: walks of ValueMay, where a text would be too long. Written by an AI agent.
-/
import Derived.Test.YtpighdioomjnmaaDoorValF
import Derived.IntWalk
namespace Go.Proofs.YtpighdioomjnmaaDoor.textsof
open Go.RowKit

set_option maxRecDepth 100000 in
set_option maxHeartbeats 2000000 in
theorem walk_long (ta na tb nb : Int) (sa sb xa xb : ByteArray) (z : Nat) (hz256 : z < 256) (hg : sg (z % 13) = { data := #[43] }) (hla : xa.size ≤ 60) (hlb : xb.size ≤ 60) (hl : 40 < xa.size + xb.size)
    (SA : ∀ w, Calls Tryd.prog 11 #[.agg #[.int .i64 ta, .int .i64 na, .string sa]] w fun e w' => e = .returned (.agg #[.int .i64 ta, .int .i64 na, .string xa]) ∧ Below w.heap.size w w')
    (SB : ∀ w, Calls Tryd.prog 11 #[.agg #[.int .i64 tb, .int .i64 nb, .string sb]] w fun e w' => e = .returned (.agg #[.int .i64 tb, .int .i64 nb, .string xb]) ∧ Below w.heap.size w w')
    (MA : ∀ w, Calls Tryd.prog 25 #[.agg #[.int .i64 ta, .int .i64 na, .string xa]] w fun e w' => e = .returned (.bool true) ∧ Below w.heap.size w w')
    (MB : ∀ w, Calls Tryd.prog 25 #[.agg #[.int .i64 tb, .int .i64 nb, .string xb]] w fun e w' => e = .returned (.bool true) ∧ Below w.heap.size w w')
    (BN : ∀ w, Calls Tryd.prog 13 #[.string { data := #[43] }, .agg #[.int .i64 ta, .int .i64 na, .string xa], .agg #[.int .i64 tb, .int .i64 nb, .string xb]] w fun e w' => e = .returned (.tuple #[.agg #[.int .i64 0, .int .i64 0, .string { data := #[] }], .int .i64 6]) ∧ Below w.heap.size w w')
    (w : World) :
    Calls Tryd.prog 4 #[.agg #[.int .i64 ta, .int .i64 na, .string sa], .agg #[.int .i64 tb, .int .i64 nb, .string sb], .int .u8 (z : Int)] w fun e w' => e = .returned (.bool true) ∧ Below w.heap.size w w' := by
  have SA' := Lib.hid SA
  have SB' := Lib.hid SB
  have MA' := Lib.hid MA
  have MB' := Lib.hid MB
  have BN' := Lib.hid BN
  clear SA SB MA MB BN
  have h1 : IntKind.i64.wrap ((xa.size : Int) + (xb.size : Int)) = (xa.size : Int) + (xb.size : Int) := by rw [IntWalk.i64_in _ (by omega)]
  have h2 : (40 : Int) < (xa.size : Int) + (xb.size : Int) := by omega
  go_enter Tryd.func4, Tryd.ntmps4
  go_wp2_with fail
  refine (shown_any _).mono ?_
  rintro e w1 ⟨rfl, hb1⟩
  have p0 : w1.cell? ⟨w.heap.size, 0, none⟩ = some (.int .i64 ta) := (hb1.cell (p := ⟨w.heap.size, 0, none⟩) (by simp; omega)).trans (by simp)
  have p1 : w1.cell? ⟨w.heap.size, 1, none⟩ = some (.int .i64 na) := (hb1.cell (p := ⟨w.heap.size, 1, none⟩) (by simp; omega)).trans (by simp)
  have p2 : w1.cell? ⟨w.heap.size, 2, none⟩ = some (.string sa) := (hb1.cell (p := ⟨w.heap.size, 2, none⟩) (by simp; omega)).trans (by simp)
  have q0 : w1.cell? ⟨w.heap.size + 1, 0, none⟩ = some (.int .i64 tb) := (hb1.cell (p := ⟨w.heap.size + 1, 0, none⟩) (by simp)).trans (by simp)
  have q1 : w1.cell? ⟨w.heap.size + 1, 1, none⟩ = some (.int .i64 nb) := (hb1.cell (p := ⟨w.heap.size + 1, 1, none⟩) (by simp)).trans (by simp)
  have q2 : w1.cell? ⟨w.heap.size + 1, 2, none⟩ = some (.string sb) := (hb1.cell (p := ⟨w.heap.size + 1, 2, none⟩) (by simp)).trans (by simp)
  have f0 : ∀ k, w1.frozen? ⟨w.heap.size, k, none⟩ = false := fun k => (hb1.frozen (p := ⟨w.heap.size, k, none⟩) (by simp; omega)).trans (by simp)
  have g0 : ∀ k, w1.frozen? ⟨w.heap.size + 1, k, none⟩ = false := fun k => (hb1.frozen (p := ⟨w.heap.size + 1, k, none⟩) (by simp)).trans (by simp)
  have hz : w.heap.size + 1 < w1.heap.size := by have := hb1.size; simp at this; omega
  have B : Below w.heap.size w w1 := (((Below.refl _ _).alloc (Nat.le_refl _) _).alloc (by simp) _).trans (hb1.mono (by simp; omega))
  obtain ⟨P, hP⟩ : ∃ P : Nat, P = w.heap.size := ⟨_, rfl⟩
  obtain ⟨Q, hQ⟩ : ∃ Q : Nat, Q = w.heap.size + 1 := ⟨_, rfl⟩
  clear hb1
  rw [← hQ] at q0 q1 q2 g0 hz
  rw [← hP] at p0 p1 p2 f0
  have hPQ : P < Q := by omega
  have hwP : w.heap.size ≤ P := by omega
  have hwQ : w.heap.size ≤ Q := by omega
  rw [← hQ, ← hP]
  clear hP hQ
  go_wp2_with fail
  refine (SA'.out _).mono ?_
  rintro e w2 ⟨rfl, hb⟩
  replace p0 := keep_cell hb (by omega) p0
  replace p1 := keep_cell hb (by omega) p1
  replace p2 := keep_cell hb (by omega) p2
  replace q0 := keep_cell hb hz q0
  replace q1 := keep_cell hb hz q1
  replace q2 := keep_cell hb hz q2
  replace f0 := fun k => ((bcell hb).2 P k (by omega)).trans (f0 k)
  replace g0 := fun k => ((bcell hb).2 Q k hz).trans (g0 k)
  replace hz := Nat.lt_of_lt_of_le hz hb.size
  replace B := B.trans (hb.mono B.size)
  clear hb
  have hPQ1 : ¬ P = Q := by omega
  have hPQ2 : ¬ Q = P := by omega
  go_wp2_with fail
  have np0 : (((w2.setCell ⟨P, 0, none⟩ (.int .i64 ta)).setCell ⟨P, 1, none⟩ (.int .i64 na)).setCell ⟨P, 2, none⟩ (.string xa)).cell? ⟨P, 0, none⟩ = some (.int .i64 ta) := by (go_simp; done)
  have np1 : (((w2.setCell ⟨P, 0, none⟩ (.int .i64 ta)).setCell ⟨P, 1, none⟩ (.int .i64 na)).setCell ⟨P, 2, none⟩ (.string xa)).cell? ⟨P, 1, none⟩ = some (.int .i64 na) := by (go_simp; done)
  have np2 : (((w2.setCell ⟨P, 0, none⟩ (.int .i64 ta)).setCell ⟨P, 1, none⟩ (.int .i64 na)).setCell ⟨P, 2, none⟩ (.string xa)).cell? ⟨P, 2, none⟩ = some (.string xa) := by (go_simp; done)
  have nq0 : (((w2.setCell ⟨P, 0, none⟩ (.int .i64 ta)).setCell ⟨P, 1, none⟩ (.int .i64 na)).setCell ⟨P, 2, none⟩ (.string xa)).cell? ⟨Q, 0, none⟩ = some (.int .i64 tb) := by (go_simp; done)
  have nq1 : (((w2.setCell ⟨P, 0, none⟩ (.int .i64 ta)).setCell ⟨P, 1, none⟩ (.int .i64 na)).setCell ⟨P, 2, none⟩ (.string xa)).cell? ⟨Q, 1, none⟩ = some (.int .i64 nb) := by (go_simp; done)
  have nq2 : (((w2.setCell ⟨P, 0, none⟩ (.int .i64 ta)).setCell ⟨P, 1, none⟩ (.int .i64 na)).setCell ⟨P, 2, none⟩ (.string xa)).cell? ⟨Q, 2, none⟩ = some (.string sb) := by (go_simp; done)
  have nf0 : ∀ k, (((w2.setCell ⟨P, 0, none⟩ (.int .i64 ta)).setCell ⟨P, 1, none⟩ (.int .i64 na)).setCell ⟨P, 2, none⟩ (.string xa)).frozen? ⟨P, k, none⟩ = false := fun k => by simp [f0]
  have ng0 : ∀ k, (((w2.setCell ⟨P, 0, none⟩ (.int .i64 ta)).setCell ⟨P, 1, none⟩ (.int .i64 na)).setCell ⟨P, 2, none⟩ (.string xa)).frozen? ⟨Q, k, none⟩ = false := fun k => by simp [g0]
  have nhz : Q < (((w2.setCell ⟨P, 0, none⟩ (.int .i64 ta)).setCell ⟨P, 1, none⟩ (.int .i64 na)).setCell ⟨P, 2, none⟩ (.string xa)).heap.size := by simpa using hz
  have nB : Below w.heap.size w (((w2.setCell ⟨P, 0, none⟩ (.int .i64 ta)).setCell ⟨P, 1, none⟩ (.int .i64 na)).setCell ⟨P, 2, none⟩ (.string xa)) := ((B.setCell (p := ⟨P, 0, none⟩) hwP _).setCell (p := ⟨P, 1, none⟩) hwP _).setCell (p := ⟨P, 2, none⟩) hwP _
  refine (SB'.out _).mono ?_
  rintro e w3 ⟨rfl, hb⟩
  replace p0 := keep_cell hb (Nat.lt_trans hPQ nhz) np0
  replace p1 := keep_cell hb (Nat.lt_trans hPQ nhz) np1
  replace p2 := keep_cell hb (Nat.lt_trans hPQ nhz) np2
  replace q0 := keep_cell hb nhz nq0
  replace q1 := keep_cell hb nhz nq1
  replace q2 := keep_cell hb nhz nq2
  replace f0 := fun k => ((bcell hb).2 P k (Nat.lt_trans hPQ nhz)).trans (nf0 k)
  replace g0 := fun k => ((bcell hb).2 Q k nhz).trans (ng0 k)
  replace B := nB.trans (hb.mono nB.size)
  replace hz := Nat.lt_of_lt_of_le nhz hb.size
  clear hb nB nhz nf0 ng0 np0 np1 np2 nq0 nq1 nq2
  go_wp2_with fail
  have np0 : (((w3.setCell ⟨Q, 0, none⟩ (.int .i64 tb)).setCell ⟨Q, 1, none⟩ (.int .i64 nb)).setCell ⟨Q, 2, none⟩ (.string xb)).cell? ⟨P, 0, none⟩ = some (.int .i64 ta) := by (go_simp; done)
  have np1 : (((w3.setCell ⟨Q, 0, none⟩ (.int .i64 tb)).setCell ⟨Q, 1, none⟩ (.int .i64 nb)).setCell ⟨Q, 2, none⟩ (.string xb)).cell? ⟨P, 1, none⟩ = some (.int .i64 na) := by (go_simp; done)
  have np2 : (((w3.setCell ⟨Q, 0, none⟩ (.int .i64 tb)).setCell ⟨Q, 1, none⟩ (.int .i64 nb)).setCell ⟨Q, 2, none⟩ (.string xb)).cell? ⟨P, 2, none⟩ = some (.string xa) := by (go_simp; done)
  have nq0 : (((w3.setCell ⟨Q, 0, none⟩ (.int .i64 tb)).setCell ⟨Q, 1, none⟩ (.int .i64 nb)).setCell ⟨Q, 2, none⟩ (.string xb)).cell? ⟨Q, 0, none⟩ = some (.int .i64 tb) := by (go_simp; done)
  have nq1 : (((w3.setCell ⟨Q, 0, none⟩ (.int .i64 tb)).setCell ⟨Q, 1, none⟩ (.int .i64 nb)).setCell ⟨Q, 2, none⟩ (.string xb)).cell? ⟨Q, 1, none⟩ = some (.int .i64 nb) := by (go_simp; done)
  have nq2 : (((w3.setCell ⟨Q, 0, none⟩ (.int .i64 tb)).setCell ⟨Q, 1, none⟩ (.int .i64 nb)).setCell ⟨Q, 2, none⟩ (.string xb)).cell? ⟨Q, 2, none⟩ = some (.string xb) := by (go_simp; done)
  have nf0 : ∀ k, (((w3.setCell ⟨Q, 0, none⟩ (.int .i64 tb)).setCell ⟨Q, 1, none⟩ (.int .i64 nb)).setCell ⟨Q, 2, none⟩ (.string xb)).frozen? ⟨P, k, none⟩ = false := fun k => by simp [f0]
  have ng0 : ∀ k, (((w3.setCell ⟨Q, 0, none⟩ (.int .i64 tb)).setCell ⟨Q, 1, none⟩ (.int .i64 nb)).setCell ⟨Q, 2, none⟩ (.string xb)).frozen? ⟨Q, k, none⟩ = false := fun k => by simp [g0]
  have nhz : Q < (((w3.setCell ⟨Q, 0, none⟩ (.int .i64 tb)).setCell ⟨Q, 1, none⟩ (.int .i64 nb)).setCell ⟨Q, 2, none⟩ (.string xb)).heap.size := by simpa using hz
  have nB : Below w.heap.size w (((w3.setCell ⟨Q, 0, none⟩ (.int .i64 tb)).setCell ⟨Q, 1, none⟩ (.int .i64 nb)).setCell ⟨Q, 2, none⟩ (.string xb)) := ((B.setCell (p := ⟨Q, 0, none⟩) hwQ _).setCell (p := ⟨Q, 1, none⟩) hwQ _).setCell (p := ⟨Q, 2, none⟩) hwQ _
  refine (signs_any _).mono ?_
  rintro e w4 ⟨rfl, hsg, hs4, hb⟩
  replace p0 := keep_cell hb (Nat.lt_trans hPQ nhz) np0
  replace p1 := keep_cell hb (Nat.lt_trans hPQ nhz) np1
  replace p2 := keep_cell hb (Nat.lt_trans hPQ nhz) np2
  replace q0 := keep_cell hb nhz nq0
  replace q1 := keep_cell hb nhz nq1
  replace q2 := keep_cell hb nhz nq2
  replace f0 := fun k => ((bcell hb).2 P k (Nat.lt_trans hPQ nhz)).trans (nf0 k)
  replace g0 := fun k => ((bcell hb).2 Q k nhz).trans (ng0 k)
  replace B := nB.trans (hb.mono nB.size)
  replace hz := Nat.lt_of_lt_of_le nhz hb.size
  have hk := hsg (z % 13) (by omega)
  rw [hg] at hk
  clear hb nB nhz nf0 ng0 np0 np1 np2 nq0 nq1 nq2 hsg
  obtain ⟨m, hm⟩ : ∃ m : Nat, m = z % 13 := ⟨_, rfl⟩
  have hm13 : m < 13 := by omega
  have ez : (z : Int).tmod 13 = (m : Int) := by rw [hm, Int.tmod_eq_emod_of_nonneg (by omega)]; omega
  have ez2 : IntKind.i64.wrap ((z : Int).tmod 13) = (m : Int) := by rw [IntWalk.i64_in _ (by rw [ez]; omega), ez]
  have hmI : (m : Int) < 13 := by omega
  have hm0 : ¬ (m : Int) < 0 := by omega
  rw [← hm] at hk
  simp only [World.size_setCell] at hk
  clear hm
  go_wp2_with fail
  refine (MA'.out _).mono ?_
  rintro e w5 ⟨rfl, hb⟩
  clear hk f0 g0
  replace p0 := keep_cell hb (Nat.lt_trans hPQ hz) p0
  replace p1 := keep_cell hb (Nat.lt_trans hPQ hz) p1
  replace p2 := keep_cell hb (Nat.lt_trans hPQ hz) p2
  replace q0 := keep_cell hb hz q0
  replace q1 := keep_cell hb hz q1
  replace q2 := keep_cell hb hz q2
  replace hz := Nat.lt_of_lt_of_le hz hb.size
  replace B := B.trans (hb.mono B.size)
  clear hb
  go_wp2_with fail
  refine (MB'.out _).mono ?_
  rintro e w6 ⟨rfl, hb⟩
  replace p0 := keep_cell hb (Nat.lt_trans hPQ hz) p0
  replace p1 := keep_cell hb (Nat.lt_trans hPQ hz) p1
  replace p2 := keep_cell hb (Nat.lt_trans hPQ hz) p2
  replace q0 := keep_cell hb hz q0
  replace q1 := keep_cell hb hz q1
  replace q2 := keep_cell hb hz q2
  replace hz := Nat.lt_of_lt_of_le hz hb.size
  replace B := B.trans (hb.mono B.size)
  clear hb
  go_wp2_with fail
  refine (BN'.out _).mono ?_
  rintro e w7 ⟨rfl, hb⟩
  replace p0 := keep_cell hb (Nat.lt_trans hPQ hz) p0
  replace p1 := keep_cell hb (Nat.lt_trans hPQ hz) p1
  replace p2 := keep_cell hb (Nat.lt_trans hPQ hz) p2
  replace q0 := keep_cell hb hz q0
  replace q1 := keep_cell hb hz q1
  replace q2 := keep_cell hb hz q2
  replace hz := Nat.lt_of_lt_of_le hz hb.size
  replace B := B.trans (hb.mono B.size)
  clear hb
  go_wp2_with fail
  obtain ⟨W, hW⟩ : ∃ W : World, W = w7.alloc (.cells #[.int .i64 0, .int .i64 0, .string { data := #[] }] 23) := ⟨_, rfl⟩
  have c0 : W.cell? ⟨w7.heap.size, 0, none⟩ = some (.int .i64 0) := by rw [hW]; simp
  have c1 : W.cell? ⟨w7.heap.size, 1, none⟩ = some (.int .i64 0) := by rw [hW]; simp
  have c2 : W.cell? ⟨w7.heap.size, 2, none⟩ = some (.string { data := #[] }) := by rw [hW]; simp
  have hw7 : w7.heap.size < W.heap.size := by rw [hW]; simp
  replace p2 : W.cell? ⟨P, 2, none⟩ = some (.string xa) := by rw [hW]; exact (((Below.refl w7.heap.size w7).alloc (Nat.le_refl _) _).cell (p := ⟨P, 2, none⟩) (Nat.lt_trans hPQ hz)).trans p2
  replace q2 : W.cell? ⟨Q, 2, none⟩ = some (.string xb) := by rw [hW]; exact (((Below.refl w7.heap.size w7).alloc (Nat.le_refl _) _).cell (p := ⟨Q, 2, none⟩) hz).trans q2
  replace B : Below w.heap.size w W := by rw [hW]; exact B.alloc B.size _
  replace hz : Q < W.heap.size := Nat.lt_trans hz hw7
  rw [← hW]
  clear hW
  have MK := Lib.hid (fun (w' : World) (h : Below W.heap.size W w') => h)
  refine wp_region_held_drew (S := fun w' => Below W.heap.size W w') (by kernel_rfl) (MK.out _ (Below.drew (Below.refl _ _))) (fun hHeld => ?_)
  refine wpAnyH_take (i := 0) (v := ?_) rfl (by kernel_rfl) (by kernel_rfl) (by kernel_rfl) (fun _ _ _ h => h) (Or.inl ⟨by rfl, ?_⟩) (by assumption) ?_
  rotate_left
  · (intro w' hSw; (try dsimp only at hSw); go_simp; (try (with_reducible rfl)))
  simp only [Act.put, List.getElem_toArray, List.getElem_cons_zero, List.setIfInBounds_toArray, List.set_cons_succ, List.set_cons_zero]
  refine wpAnyH_take (i := 1) (v := ?_) rfl (by kernel_rfl) (by kernel_rfl) (by kernel_rfl) (fun _ _ _ h => h) (Or.inl ⟨by rfl, ?_⟩) (by assumption) ?_
  rotate_left
  · (intro w' hSw; (try dsimp only at hSw); go_simp; (try (with_reducible rfl)))
  simp only [Act.put, List.getElem_toArray, List.getElem_cons_succ, List.getElem_cons_zero, List.setIfInBounds_toArray, List.set_cons_succ, List.set_cons_zero]
  refine wpAnyH_take (i := 2) (v := ?_) rfl (by kernel_rfl) (by kernel_rfl) (by kernel_rfl) (fun _ _ _ h => h) (Or.inl ⟨by rfl, ?_⟩) (by assumption) ?_
  rotate_left
  · (intro w' hSw; (try dsimp only at hSw); go_simp; (try (with_reducible rfl)))
  simp only [Act.put, List.getElem_toArray, List.getElem_cons_succ, List.getElem_cons_zero, List.setIfInBounds_toArray, List.set_cons_succ, List.set_cons_zero]
  refine wpAnyH_take (i := 3) (v := undef) rfl (by kernel_rfl) (by kernel_rfl) (by kernel_rfl) (fun _ _ _ h => h) (Or.inr ⟨by rfl, rfl⟩) (by assumption) ?_
  simp only [Act.put, List.getElem_toArray, List.getElem_cons_succ, List.getElem_cons_zero, List.setIfInBounds_toArray, List.set_cons_succ, List.set_cons_zero]
  refine wpAnyH_take (i := 4) (v := undef) rfl (by kernel_rfl) (by kernel_rfl) (by kernel_rfl) (fun _ _ _ h => h) (Or.inr ⟨by rfl, rfl⟩) (by assumption) ?_
  simp only [Act.put, List.getElem_toArray, List.getElem_cons_succ, List.getElem_cons_zero, List.setIfInBounds_toArray, List.set_cons_succ, List.set_cons_zero]
  refine wpAnyH_take (i := 5) (v := undef) rfl (by kernel_rfl) (by kernel_rfl) (by kernel_rfl) (fun _ _ _ h => h) (Or.inr ⟨by rfl, rfl⟩) (by assumption) ?_
  simp only [Act.put, List.getElem_toArray, List.getElem_cons_succ, List.getElem_cons_zero, List.setIfInBounds_toArray, List.set_cons_succ, List.set_cons_zero]
  refine wpAnyH_take (i := 6) (v := undef) rfl (by kernel_rfl) (by kernel_rfl) (by kernel_rfl) (fun _ _ _ h => h) (Or.inr ⟨by rfl, rfl⟩) (by assumption) ?_
  simp only [Act.put, List.getElem_toArray, List.getElem_cons_succ, List.getElem_cons_zero, List.setIfInBounds_toArray, List.set_cons_succ, List.set_cons_zero]
  refine wpAnyH_take (i := 7) (v := undef) rfl (by kernel_rfl) (by kernel_rfl) (by kernel_rfl) (fun _ _ _ h => h) (Or.inr ⟨by rfl, rfl⟩) (by assumption) ?_
  simp only [Act.put, List.getElem_toArray, List.getElem_cons_succ, List.getElem_cons_zero, List.setIfInBounds_toArray, List.set_cons_succ, List.set_cons_zero]
  refine wpAnyH_take (i := 8) (v := undef) rfl (by kernel_rfl) (by kernel_rfl) (by kernel_rfl) (fun _ _ _ h => h) (Or.inr ⟨by rfl, rfl⟩) (by assumption) ?_
  simp only [Act.put, List.getElem_toArray, List.getElem_cons_succ, List.getElem_cons_zero, List.setIfInBounds_toArray, List.set_cons_succ, List.set_cons_zero]
  refine wpAnyH_take (i := 9) (v := ?_) rfl (by kernel_rfl) (by kernel_rfl) (by kernel_rfl) (fun _ _ _ h => h) (Or.inl ⟨by rfl, ?_⟩) (by assumption) ?_
  rotate_left
  · (intro w' hSw; (try dsimp only at hSw); go_simp; (try (with_reducible rfl)))
  simp only [Act.put, List.getElem_toArray, List.getElem_cons_succ, List.getElem_cons_zero, List.setIfInBounds_toArray, List.set_cons_succ, List.set_cons_zero]
  refine wpAnyH_take (i := 10) (v := ?_) rfl (by kernel_rfl) (by kernel_rfl) (by kernel_rfl) (fun _ _ _ h => h) (Or.inl ⟨by rfl, ?_⟩) (by assumption) ?_
  rotate_left
  · (intro w' hSw; (try dsimp only at hSw); go_simp; (try (with_reducible rfl)))
  simp only [Act.put, List.getElem_toArray, List.getElem_cons_succ, List.getElem_cons_zero, List.setIfInBounds_toArray, List.set_cons_succ, List.set_cons_zero]
  refine wpAnyH_take (i := 11) (v := undef) rfl (by kernel_rfl) (by kernel_rfl) (by kernel_rfl) (fun _ _ _ h => h) (Or.inr ⟨by rfl, rfl⟩) (by assumption) ?_
  simp only [Act.put, List.getElem_toArray, List.getElem_cons_succ, List.getElem_cons_zero, List.setIfInBounds_toArray, List.set_cons_succ, List.set_cons_zero]
  refine wpAnyH_take (i := 12) (v := undef) rfl (by kernel_rfl) (by kernel_rfl) (by kernel_rfl) (fun _ _ _ h => h) (Or.inr ⟨by rfl, rfl⟩) (by assumption) ?_
  simp only [Act.put, List.getElem_toArray, List.getElem_cons_succ, List.getElem_cons_zero, List.setIfInBounds_toArray, List.set_cons_succ, List.set_cons_zero]
  refine wpAnyH_take (i := 13) (v := undef) rfl (by kernel_rfl) (by kernel_rfl) (by kernel_rfl) (fun _ _ _ h => h) (Or.inr ⟨by rfl, rfl⟩) (by assumption) ?_
  simp only [Act.put, List.getElem_toArray, List.getElem_cons_succ, List.getElem_cons_zero, List.setIfInBounds_toArray, List.set_cons_succ, List.set_cons_zero]
  refine wpAnyH_take (i := 14) (v := ?_) rfl (by kernel_rfl) (by kernel_rfl) (by kernel_rfl) (fun _ _ _ h => h) (Or.inl ⟨by rfl, ?_⟩) (by assumption) ?_
  rotate_left
  · (intro w' hSw; (try dsimp only at hSw); go_simp; (try (with_reducible rfl)))
  simp only [Act.put, List.getElem_toArray, List.getElem_cons_succ, List.getElem_cons_zero, List.setIfInBounds_toArray, List.set_cons_succ, List.set_cons_zero]
  refine wpAnyH_take (i := 15) (v := ?_) rfl (by kernel_rfl) (by kernel_rfl) (by kernel_rfl) (fun _ _ _ h => h) (Or.inl ⟨by rfl, ?_⟩) (by assumption) ?_
  rotate_left
  · (intro w' hSw; (try dsimp only at hSw); go_simp; (try (with_reducible rfl)))
  simp only [Act.put, List.getElem_toArray, List.getElem_cons_succ, List.getElem_cons_zero, List.setIfInBounds_toArray, List.set_cons_succ, List.set_cons_zero]
  refine wpAnyH_done (by kernel_rfl) ?_ _
  obtain ⟨D, hD⟩ : ∃ D : World, D = W.drew := ⟨_, rfl⟩
  have hb : Below W.heap.size W D := by rw [hD]; exact (Below.refl _ _).drew
  rw [← hD]
  replace c0 := keep_cell hb hw7 c0
  replace c1 := keep_cell hb hw7 c1
  replace c2 := keep_cell hb hw7 c2
  replace p2 := keep_cell hb (Nat.lt_trans hPQ hz) p2
  replace q2 := keep_cell hb hz q2
  replace B := B.trans (hb.mono B.size)
  clear hD hb
  go_wp2
  go_ret
  exact ⟨rfl, B⟩
end Go.Proofs.YtpighdioomjnmaaDoor.textsof
