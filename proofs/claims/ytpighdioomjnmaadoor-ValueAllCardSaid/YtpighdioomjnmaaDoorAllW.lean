/-
  Layer 5: the walk of ValueAll. Written by an AI agent.
-/
import Derived.Test.YtpighdioomjnmaaDoorAllE
import Derived.Deep.DeepCutAuto
import Derived.Deep.RegionWith
import Derived.Deep.RegionHeld3
namespace Go.Proofs.YtpighdioomjnmaaDoor.textsof
open Go.RowKit Go.Proofs.YtpighdioomjnmaaDoor.logic
set_option linter.unusedVariables false

set_option maxRecDepth 100000 in
set_option maxHeartbeats 8000000 in
theorem all_walk (ta na tb nb : Int) (sa sb xa xb : ByteArray) (z : Nat) (hz256 : z < 256) (g : ByteArray) (hg : sg (z % 13) = g) (rt rn x gt gn : Int) (rs gs wa qa : ByteArray) (m : Bool)
    (SA : ∀ w, Calls Tryd.prog 11 #[.agg #[.int .i64 ta, .int .i64 na, .string sa]] w fun e w' => e = .returned (.agg #[.int .i64 ta, .int .i64 na, .string xa]) ∧ Below w.heap.size w w')
    (SB : ∀ w, Calls Tryd.prog 11 #[.agg #[.int .i64 tb, .int .i64 nb, .string sb]] w fun e w' => e = .returned (.agg #[.int .i64 tb, .int .i64 nb, .string xb]) ∧ Below w.heap.size w w')
    (BC : ∀ w, Calls Tryd.prog 13 #[.string g, .agg #[.int .i64 ta, .int .i64 na, .string xa], .agg #[.int .i64 tb, .int .i64 nb, .string xb]] w fun e w' => e = .returned (.tuple #[.agg #[.int .i64 rt, .int .i64 rn, .string rs], .int .i64 x]) ∧ Below w.heap.size w w')
    (BR : ∀ w, Calls Tryd.prog 14 #[.string g, .agg #[.int .i64 ta, .int .i64 na, .string xa], .agg #[.int .i64 tb, .int .i64 nb, .string xb]] w fun e w' => e = .returned (.tuple #[.agg #[.int .i64 rt, .int .i64 rn, .string rs], .int .i64 x]) ∧ Below w.heap.size w w')
    (GC : ∀ w, Calls Tryd.prog 23 #[.string g, .agg #[.int .i64 ta, .int .i64 na, .string xa]] w fun e w' => e = .returned (.agg #[.int .i64 gt, .int .i64 gn, .string gs]) ∧ Below w.heap.size w w')
    (GR : ∀ w, Calls Tryd.prog 24 #[.string g, .agg #[.int .i64 ta, .int .i64 na, .string xa]] w fun e w' => e = .returned (.agg #[.int .i64 gt, .int .i64 gn, .string gs]) ∧ Below w.heap.size w w')
    (MC : ∀ w, Calls Tryd.prog 25 #[.agg #[.int .i64 ta, .int .i64 na, .string xa]] w fun e w' => e = .returned (.bool m) ∧ Below w.heap.size w w')
    (MD : ∀ w, Calls Tryd.prog 26 #[.agg #[.int .i64 ta, .int .i64 na, .string xa]] w fun e w' => e = .returned (.bool m) ∧ Below w.heap.size w w')
    (WC : ∀ w, TabW w → Calls Tryd.prog 27 #[.agg #[.int .i64 ta, .int .i64 na, .string xa]] w fun e w' => e = .returned (.string wa) ∧ Below w.heap.size w w')
    (WR : ∀ w, TabW w → Calls Tryd.prog 28 #[.agg #[.int .i64 ta, .int .i64 na, .string xa]] w fun e w' => e = .returned (.string wa) ∧ Below w.heap.size w w')
    (QC : ∀ w, TabW w → Calls Tryd.prog 29 #[.agg #[.int .i64 ta, .int .i64 na, .string xa]] w fun e w' => e = .returned (.string qa) ∧ Below w.heap.size w w')
    (QR : ∀ w, TabW w → Calls Tryd.prog 30 #[.agg #[.int .i64 ta, .int .i64 na, .string xa]] w fun e w' => e = .returned (.string qa) ∧ Below w.heap.size w w')
    (w : World) (hT : TabW w) :
    Calls Tryd.prog 3 #[.agg #[.int .i64 ta, .int .i64 na, .string sa], .agg #[.int .i64 tb, .int .i64 nb, .string sb], .int .u8 (z : Int)] w fun e w' => e = .returned (.bool true) ∧ Below w.heap.size w w' := by
  have SA' := Lib.hid SA
  have SB' := Lib.hid SB
  have BC' := Lib.hid BC
  have BR' := Lib.hid BR
  have GC' := Lib.hid GC
  have GR' := Lib.hid GR
  have MC' := Lib.hid MC
  have MD' := Lib.hid MD
  have WC' := Lib.hid WC
  have WR' := Lib.hid WR
  have QC' := Lib.hid QC
  have QR' := Lib.hid QR
  have HT := Lib.hid hT
  clear hT SA SB BC BR GC GR MC MD WC WR QC QR
  go_enter Tryd.func3, Tryd.ntmps3
  go_wp2_with fail
  refine (shown_any _).mono ?_
  rintro e w1 ⟨rfl, hb1⟩
  have p0 : w1.cell? ⟨w.heap.size, 0, none⟩ = some (.int .i64 ta) := (hb1.cell (p := ⟨w.heap.size, 0, none⟩) (by simp; omega)).trans (by simp)
  have p1 : w1.cell? ⟨w.heap.size, 1, none⟩ = some (.int .i64 na) := (hb1.cell (p := ⟨w.heap.size, 1, none⟩) (by simp; omega)).trans (by simp)
  have p2 : w1.cell? ⟨w.heap.size, 2, none⟩ = some (.string sa) := (hb1.cell (p := ⟨w.heap.size, 2, none⟩) (by simp; omega)).trans (by simp)
  have q0 : w1.cell? ⟨w.heap.size + 1, 0, none⟩ = some (.int .i64 tb) := (hb1.cell (p := ⟨w.heap.size + 1, 0, none⟩) (by simp)).trans (by simp)
  have q1 : w1.cell? ⟨w.heap.size + 1, 1, none⟩ = some (.int .i64 nb) := (hb1.cell (p := ⟨w.heap.size + 1, 1, none⟩) (by simp)).trans (by simp)
  have q2 : w1.cell? ⟨w.heap.size + 1, 2, none⟩ = some (.string sb) := (hb1.cell (p := ⟨w.heap.size + 1, 2, none⟩) (by simp)).trans (by simp)
  have f0 : ∀ k, w1.frozen? ⟨w.heap.size, k, none⟩ = false := fun k => (hb1.frozen (p := ⟨w.heap.size, k, none⟩) (by simp; omega)).trans (by simp)
  have g0 : ∀ k, w1.frozen? ⟨w.heap.size + 1, k, none⟩ = false := fun k => (hb1.frozen (p := ⟨w.heap.size + 1, k, none⟩) (by simp)).trans (by simp)
  have hz : w.heap.size + 1 < w1.heap.size := by have := hb1.size; simp at this; omega
  have B : Below w.heap.size w w1 := (((Below.refl _ _).alloc (Nat.le_refl _) _).alloc (by simp) _).trans (hb1.mono (by simp; omega))
  obtain ⟨P, hP⟩ : ∃ P : Nat, P = w.heap.size := ⟨_, rfl⟩
  obtain ⟨Q, hQ⟩ : ∃ Q : Nat, Q = w.heap.size + 1 := ⟨_, rfl⟩
  clear hb1
  rw [← hQ] at q0 q1 q2 g0 hz
  rw [← hP] at p0 p1 p2 f0
  have hPQ : P < Q := by omega
  have hwP : w.heap.size ≤ P := by omega
  have hwQ : w.heap.size ≤ Q := by omega
  rw [← hQ, ← hP]
  clear hP hQ
  go_wp2_with fail
  refine (SA'.out _).mono ?_
  rintro e w2 ⟨rfl, hb⟩
  replace p0 := keep_cell hb (by omega) p0
  replace p1 := keep_cell hb (by omega) p1
  replace p2 := keep_cell hb (by omega) p2
  replace q0 := keep_cell hb hz q0
  replace q1 := keep_cell hb hz q1
  replace q2 := keep_cell hb hz q2
  replace f0 := fun k => ((bcell hb).2 P k (by omega)).trans (f0 k)
  replace g0 := fun k => ((bcell hb).2 Q k hz).trans (g0 k)
  replace hz := Nat.lt_of_lt_of_le hz hb.size
  replace B := B.trans (hb.mono B.size)
  clear hb
  have hPQ1 : ¬ P = Q := by omega
  have hPQ2 : ¬ Q = P := by omega
  go_wp2_with fail
  have np0 : (((w2.setCell ⟨P, 0, none⟩ (.int .i64 ta)).setCell ⟨P, 1, none⟩ (.int .i64 na)).setCell ⟨P, 2, none⟩ (.string xa)).cell? ⟨P, 0, none⟩ = some (.int .i64 ta) := by (go_simp; done)
  have np1 : (((w2.setCell ⟨P, 0, none⟩ (.int .i64 ta)).setCell ⟨P, 1, none⟩ (.int .i64 na)).setCell ⟨P, 2, none⟩ (.string xa)).cell? ⟨P, 1, none⟩ = some (.int .i64 na) := by (go_simp; done)
  have np2 : (((w2.setCell ⟨P, 0, none⟩ (.int .i64 ta)).setCell ⟨P, 1, none⟩ (.int .i64 na)).setCell ⟨P, 2, none⟩ (.string xa)).cell? ⟨P, 2, none⟩ = some (.string xa) := by (go_simp; done)
  have nq0 : (((w2.setCell ⟨P, 0, none⟩ (.int .i64 ta)).setCell ⟨P, 1, none⟩ (.int .i64 na)).setCell ⟨P, 2, none⟩ (.string xa)).cell? ⟨Q, 0, none⟩ = some (.int .i64 tb) := by (go_simp; done)
  have nq1 : (((w2.setCell ⟨P, 0, none⟩ (.int .i64 ta)).setCell ⟨P, 1, none⟩ (.int .i64 na)).setCell ⟨P, 2, none⟩ (.string xa)).cell? ⟨Q, 1, none⟩ = some (.int .i64 nb) := by (go_simp; done)
  have nq2 : (((w2.setCell ⟨P, 0, none⟩ (.int .i64 ta)).setCell ⟨P, 1, none⟩ (.int .i64 na)).setCell ⟨P, 2, none⟩ (.string xa)).cell? ⟨Q, 2, none⟩ = some (.string sb) := by (go_simp; done)
  have nf0 : ∀ k, (((w2.setCell ⟨P, 0, none⟩ (.int .i64 ta)).setCell ⟨P, 1, none⟩ (.int .i64 na)).setCell ⟨P, 2, none⟩ (.string xa)).frozen? ⟨P, k, none⟩ = false := fun k => by simp [f0]
  have ng0 : ∀ k, (((w2.setCell ⟨P, 0, none⟩ (.int .i64 ta)).setCell ⟨P, 1, none⟩ (.int .i64 na)).setCell ⟨P, 2, none⟩ (.string xa)).frozen? ⟨Q, k, none⟩ = false := fun k => by simp [g0]
  have nhz : Q < (((w2.setCell ⟨P, 0, none⟩ (.int .i64 ta)).setCell ⟨P, 1, none⟩ (.int .i64 na)).setCell ⟨P, 2, none⟩ (.string xa)).heap.size := by simpa using hz
  have nB : Below w.heap.size w (((w2.setCell ⟨P, 0, none⟩ (.int .i64 ta)).setCell ⟨P, 1, none⟩ (.int .i64 na)).setCell ⟨P, 2, none⟩ (.string xa)) := ((B.setCell (p := ⟨P, 0, none⟩) hwP _).setCell (p := ⟨P, 1, none⟩) hwP _).setCell (p := ⟨P, 2, none⟩) hwP _
  refine (SB'.out _).mono ?_
  rintro e w3 ⟨rfl, hb⟩
  replace p0 := keep_cell hb (Nat.lt_trans hPQ nhz) np0
  replace p1 := keep_cell hb (Nat.lt_trans hPQ nhz) np1
  replace p2 := keep_cell hb (Nat.lt_trans hPQ nhz) np2
  replace q0 := keep_cell hb nhz nq0
  replace q1 := keep_cell hb nhz nq1
  replace q2 := keep_cell hb nhz nq2
  replace f0 := fun k => ((bcell hb).2 P k (Nat.lt_trans hPQ nhz)).trans (nf0 k)
  replace g0 := fun k => ((bcell hb).2 Q k nhz).trans (ng0 k)
  replace B := nB.trans (hb.mono nB.size)
  replace hz := Nat.lt_of_lt_of_le nhz hb.size
  clear hb nB nhz nf0 ng0 np0 np1 np2 nq0 nq1 nq2
  go_wp2_with fail
  have np0 : (((w3.setCell ⟨Q, 0, none⟩ (.int .i64 tb)).setCell ⟨Q, 1, none⟩ (.int .i64 nb)).setCell ⟨Q, 2, none⟩ (.string xb)).cell? ⟨P, 0, none⟩ = some (.int .i64 ta) := by (go_simp; done)
  have np1 : (((w3.setCell ⟨Q, 0, none⟩ (.int .i64 tb)).setCell ⟨Q, 1, none⟩ (.int .i64 nb)).setCell ⟨Q, 2, none⟩ (.string xb)).cell? ⟨P, 1, none⟩ = some (.int .i64 na) := by (go_simp; done)
  have np2 : (((w3.setCell ⟨Q, 0, none⟩ (.int .i64 tb)).setCell ⟨Q, 1, none⟩ (.int .i64 nb)).setCell ⟨Q, 2, none⟩ (.string xb)).cell? ⟨P, 2, none⟩ = some (.string xa) := by (go_simp; done)
  have nq0 : (((w3.setCell ⟨Q, 0, none⟩ (.int .i64 tb)).setCell ⟨Q, 1, none⟩ (.int .i64 nb)).setCell ⟨Q, 2, none⟩ (.string xb)).cell? ⟨Q, 0, none⟩ = some (.int .i64 tb) := by (go_simp; done)
  have nq1 : (((w3.setCell ⟨Q, 0, none⟩ (.int .i64 tb)).setCell ⟨Q, 1, none⟩ (.int .i64 nb)).setCell ⟨Q, 2, none⟩ (.string xb)).cell? ⟨Q, 1, none⟩ = some (.int .i64 nb) := by (go_simp; done)
  have nq2 : (((w3.setCell ⟨Q, 0, none⟩ (.int .i64 tb)).setCell ⟨Q, 1, none⟩ (.int .i64 nb)).setCell ⟨Q, 2, none⟩ (.string xb)).cell? ⟨Q, 2, none⟩ = some (.string xb) := by (go_simp; done)
  have nf0 : ∀ k, (((w3.setCell ⟨Q, 0, none⟩ (.int .i64 tb)).setCell ⟨Q, 1, none⟩ (.int .i64 nb)).setCell ⟨Q, 2, none⟩ (.string xb)).frozen? ⟨P, k, none⟩ = false := fun k => by simp [f0]
  have ng0 : ∀ k, (((w3.setCell ⟨Q, 0, none⟩ (.int .i64 tb)).setCell ⟨Q, 1, none⟩ (.int .i64 nb)).setCell ⟨Q, 2, none⟩ (.string xb)).frozen? ⟨Q, k, none⟩ = false := fun k => by simp [g0]
  have nhz : Q < (((w3.setCell ⟨Q, 0, none⟩ (.int .i64 tb)).setCell ⟨Q, 1, none⟩ (.int .i64 nb)).setCell ⟨Q, 2, none⟩ (.string xb)).heap.size := by simpa using hz
  have nB : Below w.heap.size w (((w3.setCell ⟨Q, 0, none⟩ (.int .i64 tb)).setCell ⟨Q, 1, none⟩ (.int .i64 nb)).setCell ⟨Q, 2, none⟩ (.string xb)) := ((B.setCell (p := ⟨Q, 0, none⟩) hwQ _).setCell (p := ⟨Q, 1, none⟩) hwQ _).setCell (p := ⟨Q, 2, none⟩) hwQ _
  refine (signs_any _).mono ?_
  rintro e w4 ⟨rfl, hsg, hs4, hb⟩
  replace p0 := keep_cell hb (Nat.lt_trans hPQ nhz) np0
  replace p1 := keep_cell hb (Nat.lt_trans hPQ nhz) np1
  replace p2 := keep_cell hb (Nat.lt_trans hPQ nhz) np2
  replace q0 := keep_cell hb nhz nq0
  replace q1 := keep_cell hb nhz nq1
  replace q2 := keep_cell hb nhz nq2
  replace f0 := fun k => ((bcell hb).2 P k (Nat.lt_trans hPQ nhz)).trans (nf0 k)
  replace g0 := fun k => ((bcell hb).2 Q k nhz).trans (ng0 k)
  replace B := nB.trans (hb.mono nB.size)
  replace hz := Nat.lt_of_lt_of_le nhz hb.size
  have hk := hsg (z % 13) (by omega)
  rw [hg] at hk
  clear hb nB nhz nf0 ng0 np0 np1 np2 nq0 nq1 nq2 hsg
  obtain ⟨m, hm⟩ : ∃ m : Nat, m = z % 13 := ⟨_, rfl⟩
  have hm13 : m < 13 := by omega
  have ez : (z : Int).tmod 13 = (m : Int) := by rw [hm, Int.tmod_eq_emod_of_nonneg (by omega)]; omega
  have ez2 : IntKind.i64.wrap ((z : Int).tmod 13) = (m : Int) := by rw [IntWalk.i64_in _ (by rw [ez]; omega), ez]
  have hmI : (m : Int) < 13 := by omega
  have hm0 : ¬ (m : Int) < 0 := by omega
  rw [← hm] at hk
  simp only [World.size_setCell] at hk
  clear hm
  have d10 := p0
  have d11 := p1
  have d12 := p2
  have d20 := q0
  have d21 := q1
  have d22 := q2
  have y2 := hz
  have y1 : P < w4.heap.size := Nat.lt_trans hPQ y2
  clear p0 p1 p2 q0 q1 q2 f0 g0 hz
  go_wp2_with fail
  refine (BC'.out _).mono ?_
  rintro e w5 ⟨rfl, hb⟩
  clear hk
  replace d10 := keep_cell hb y1 d10
  replace d11 := keep_cell hb y1 d11
  replace d12 := keep_cell hb y1 d12
  replace y1 := Nat.lt_of_lt_of_le y1 hb.size
  replace d20 := keep_cell hb y2 d20
  replace d21 := keep_cell hb y2 d21
  replace d22 := keep_cell hb y2 d22
  replace y2 := Nat.lt_of_lt_of_le y2 hb.size
  replace B := keep_below B hb
  clear hb
  go_wp2_with fail
  refine (BR'.out _).mono ?_
  rintro e x11 ⟨rfl, hb⟩
  replace d10 := up_cell hb y1 d10
  replace d11 := up_cell hb y1 d11
  replace d12 := up_cell hb y1 d12
  replace y1 := up_size hb (Nat.le_of_lt y1)
  replace d20 := up_cell hb y2 d20
  replace d21 := up_cell hb y2 d21
  replace d22 := up_cell hb y2 d22
  replace y2 := up_size hb (Nat.le_of_lt y2)
  obtain ⟨d30, d31, d32⟩ := new_cell hb
  have y3 : w5.heap.size < x11.heap.size := up_size hb (Nat.le_refl _)
  replace B := up_below hb B
  clear hb
  go_upto_region 7 with fail
  obtain ⟨W11, hW⟩ : ∃ W : World, W = x11.alloc (.cells #[.int .i64 rt, .int .i64 rn, .string rs] 23) := ⟨_, rfl⟩
  replace d10 : W11.cell? ⟨P, 0, none⟩ = _ := (congrArg (fun W : World => W.cell? ⟨P, 0, none⟩) hW).trans (at_alloc y1 d10)
  replace d11 : W11.cell? ⟨P, 1, none⟩ = _ := (congrArg (fun W : World => W.cell? ⟨P, 1, none⟩) hW).trans (at_alloc y1 d11)
  replace d12 : W11.cell? ⟨P, 2, none⟩ = _ := (congrArg (fun W : World => W.cell? ⟨P, 2, none⟩) hW).trans (at_alloc y1 d12)
  replace y1 : P < W11.heap.size := by rw [hW]; simp; omega
  replace d20 : W11.cell? ⟨Q, 0, none⟩ = _ := (congrArg (fun W : World => W.cell? ⟨Q, 0, none⟩) hW).trans (at_alloc y2 d20)
  replace d21 : W11.cell? ⟨Q, 1, none⟩ = _ := (congrArg (fun W : World => W.cell? ⟨Q, 1, none⟩) hW).trans (at_alloc y2 d21)
  replace d22 : W11.cell? ⟨Q, 2, none⟩ = _ := (congrArg (fun W : World => W.cell? ⟨Q, 2, none⟩) hW).trans (at_alloc y2 d22)
  replace y2 : Q < W11.heap.size := by rw [hW]; simp; omega
  replace d30 : W11.cell? ⟨w5.heap.size, 0, none⟩ = _ := (congrArg (fun W : World => W.cell? ⟨w5.heap.size, 0, none⟩) hW).trans (at_alloc y3 d30)
  replace d31 : W11.cell? ⟨w5.heap.size, 1, none⟩ = _ := (congrArg (fun W : World => W.cell? ⟨w5.heap.size, 1, none⟩) hW).trans (at_alloc y3 d31)
  replace d32 : W11.cell? ⟨w5.heap.size, 2, none⟩ = _ := (congrArg (fun W : World => W.cell? ⟨w5.heap.size, 2, none⟩) hW).trans (at_alloc y3 d32)
  replace y3 : w5.heap.size < W11.heap.size := by rw [hW]; simp; omega
  obtain ⟨d40, d41, d42⟩ : W11.cell? ⟨x11.heap.size, 0, none⟩ = some (.int .i64 rt) ∧ W11.cell? ⟨x11.heap.size, 1, none⟩ = some (.int .i64 rn) ∧ W11.cell? ⟨x11.heap.size, 2, none⟩ = some (.string rs) := by rw [hW]; exact at_new
  have y4 : x11.heap.size < W11.heap.size := by rw [hW]; simp
  replace B : Below w.heap.size w W11 := by rw [hW]; exact B.alloc B.size _
  rw [← hW]
  clear hW
  have mk : ∀ w' : World, Below W11.heap.size W11 w' → (w'.cell? ⟨P, 0, none⟩ = some (.int .i64 ta) ∧ w'.cell? ⟨P, 1, none⟩ = some (.int .i64 na) ∧ w'.cell? ⟨P, 2, none⟩ = some (.string xa) ∧ w'.cell? ⟨w5.heap.size, 0, none⟩ = some (.int .i64 rt) ∧ w'.cell? ⟨w5.heap.size, 1, none⟩ = some (.int .i64 rn) ∧ w'.cell? ⟨w5.heap.size, 2, none⟩ = some (.string rs) ∧ w'.cell? ⟨x11.heap.size, 0, none⟩ = some (.int .i64 rt) ∧ w'.cell? ⟨x11.heap.size, 1, none⟩ = some (.int .i64 rn) ∧ w'.cell? ⟨x11.heap.size, 2, none⟩ = some (.string rs) ∧ Below W11.heap.size W11 w') := fun w' h => ⟨keep_cell h y1 d10, keep_cell h y1 d11, keep_cell h y1 d12, keep_cell h y3 d30, keep_cell h y3 d31, keep_cell h y3 d32, keep_cell h y4 d40, keep_cell h y4 d41, keep_cell h y4 d42, h⟩
  have MK := Lib.hid mk
  clear mk
  refine wp_region_held_drew (S := fun w' => w'.cell? ⟨P, 0, none⟩ = some (.int .i64 ta) ∧ w'.cell? ⟨P, 1, none⟩ = some (.int .i64 na) ∧ w'.cell? ⟨P, 2, none⟩ = some (.string xa) ∧ w'.cell? ⟨w5.heap.size, 0, none⟩ = some (.int .i64 rt) ∧ w'.cell? ⟨w5.heap.size, 1, none⟩ = some (.int .i64 rn) ∧ w'.cell? ⟨w5.heap.size, 2, none⟩ = some (.string rs) ∧ w'.cell? ⟨x11.heap.size, 0, none⟩ = some (.int .i64 rt) ∧ w'.cell? ⟨x11.heap.size, 1, none⟩ = some (.int .i64 rn) ∧ w'.cell? ⟨x11.heap.size, 2, none⟩ = some (.string rs) ∧ Below W11.heap.size W11 w') (by kernel_rfl) (MK.out _ (Below.drew (Below.refl _ _))) (fun hHeld => ?_)
  refine wpAnyH_take (i := 0) (v := ?_) rfl (by kernel_rfl) (by kernel_rfl) (by kernel_rfl) (fun _ _ _ h => h) (Or.inl ⟨by rfl, ?_⟩) (by assumption) ?_
  rotate_left
  · (intro w' hSw; (try dsimp only at hSw); go_simp; (try (with_reducible rfl)))
  simp only [Act.put, List.getElem_toArray, List.getElem_cons_zero, List.setIfInBounds_toArray, List.set_cons_succ, List.set_cons_zero]
  refine wpAnyH_take (i := 1) (v := ?_) rfl (by kernel_rfl) (by kernel_rfl) (by kernel_rfl) (fun _ _ _ h => h) (Or.inl ⟨by rfl, ?_⟩) (by assumption) ?_
  rotate_left
  · (intro w' hSw; (try dsimp only at hSw); go_simp; (try (with_reducible rfl)))
  simp only [Act.put, List.getElem_toArray, List.getElem_cons_succ, List.getElem_cons_zero, List.setIfInBounds_toArray, List.set_cons_succ, List.set_cons_zero]
  refine wpAnyH_take (i := 3) (v := ?_) rfl (by kernel_rfl) (by kernel_rfl) (by kernel_rfl) (fun _ _ _ h => h) (Or.inl ⟨by rfl, ?_⟩) (by assumption) ?_
  rotate_left
  · (intro w' hSw; (try dsimp only at hSw); go_simp; (try (with_reducible rfl)))
  simp only [Act.put, List.getElem_toArray, List.getElem_cons_succ, List.getElem_cons_zero, List.setIfInBounds_toArray, List.set_cons_succ, List.set_cons_zero]
  refine wpAnyH_take (i := 4) (v := ?_) rfl (by kernel_rfl) (by kernel_rfl) (by kernel_rfl) (fun _ _ _ h => h) (Or.inl ⟨by rfl, ?_⟩) (by assumption) ?_
  rotate_left
  · (intro w' hSw; (try dsimp only at hSw); go_simp; (try (with_reducible rfl)))
  simp only [Act.put, List.getElem_toArray, List.getElem_cons_succ, List.getElem_cons_zero, List.setIfInBounds_toArray, List.set_cons_succ, List.set_cons_zero]
  refine wpAnyH_ready (rs := [2]) (by kernel_rfl) (by simp) ?_
  refine AllReadyH.cons rfl (fun K hK => ?_) AllReadyH.nil
  go_simp
  (go_at_call 15; refine (int_any _ _).mono ?_; rintro e w4 ⟨rfl, hb4⟩; (try go_simp))
  refine hK.out _ _ ?_ (fun hHeld => ?_)
  · (try dsimp only); exact MK.out _ (keep_below hHeld.2.2.2.2.2.2.2.2.2 hb4)
  clear hK K
  refine wpAnyH_ready (rs := [5]) (by kernel_rfl) (by simp) ?_
  refine AllReadyH.cons rfl (fun K hK => ?_) AllReadyH.nil
  go_simp
  (go_at_call 16; refine (rint_any _ _).mono ?_; rintro e w4 ⟨rfl, hb4⟩; (try go_simp))
  refine hK.out _ _ ?_ (fun hHeld => ?_)
  · (try dsimp only); exact MK.out _ (keep_below hHeld.2.2.2.2.2.2.2.2.2 hb4)
  clear hK K
  refine wpAnyH_take (i := 6) (v := ?_) rfl (by kernel_rfl) (by kernel_rfl) (by kernel_rfl) (fun _ _ _ h => h) (Or.inl ⟨by rfl, ?_⟩) (by assumption) ?_
  rotate_left
  · (intro w' hSw; (try dsimp only at hSw); go_simp; (try (with_reducible rfl)))
  simp only [Act.put, List.getElem_toArray, List.getElem_cons_succ, List.getElem_cons_zero, List.setIfInBounds_toArray, List.set_cons_succ, List.set_cons_zero]
  refine wpAnyH_take (i := 7) (v := ?_) rfl (by kernel_rfl) (by kernel_rfl) (by kernel_rfl) (fun _ _ _ h => h) (Or.inl ⟨by rfl, ?_⟩) (by assumption) ?_
  rotate_left
  · (intro w' hSw; (try dsimp only at hSw); go_simp; (try (with_reducible rfl)))
  simp only [Act.put, List.getElem_toArray, List.getElem_cons_succ, List.getElem_cons_zero, List.setIfInBounds_toArray, List.set_cons_succ, List.set_cons_zero]
  refine wpAnyH_take (i := 8) (v := ?_) rfl (by kernel_rfl) (by kernel_rfl) (by kernel_rfl) (fun _ _ _ h => h) (Or.inl ⟨by rfl, ?_⟩) (by assumption) ?_
  rotate_left
  · (intro w' hSw; (try dsimp only at hSw); go_simp; (try (with_reducible rfl)))
  simp only [Act.put, List.getElem_toArray, List.getElem_cons_succ, List.getElem_cons_zero, List.setIfInBounds_toArray, List.set_cons_succ, List.set_cons_zero]
  refine wpAnyH_take (i := 9) (v := ?_) rfl (by kernel_rfl) (by kernel_rfl) (by kernel_rfl) (fun _ _ _ h => h) (Or.inl ⟨by rfl, ?_⟩) (by assumption) ?_
  rotate_left
  · (intro w' hSw; (try dsimp only at hSw); go_simp; (try (with_reducible rfl)))
  simp only [Act.put, List.getElem_toArray, List.getElem_cons_succ, List.getElem_cons_zero, List.setIfInBounds_toArray, List.set_cons_succ, List.set_cons_zero]
  refine wpAnyH_take (i := 10) (v := ?_) rfl (by kernel_rfl) (by kernel_rfl) (by kernel_rfl) (fun _ _ _ h => h) (Or.inl ⟨by rfl, ?_⟩) (by assumption) ?_
  rotate_left
  · (intro w' hSw; (try dsimp only at hSw); go_simp; (try (with_reducible rfl)))
  simp only [Act.put, List.getElem_toArray, List.getElem_cons_succ, List.getElem_cons_zero, List.setIfInBounds_toArray, List.set_cons_succ, List.set_cons_zero]
  refine wpAnyH_take (i := 12) (v := ?_) rfl (by kernel_rfl) (by kernel_rfl) (by kernel_rfl) (fun _ _ _ h => h) (Or.inl ⟨by rfl, ?_⟩) (by assumption) ?_
  rotate_left
  · (intro w' hSw; (try dsimp only at hSw); go_simp; (try (with_reducible rfl)))
  simp only [Act.put, List.getElem_toArray, List.getElem_cons_succ, List.getElem_cons_zero, List.setIfInBounds_toArray, List.set_cons_succ, List.set_cons_zero]
  refine wpAnyH_take (i := 13) (v := ?_) rfl (by kernel_rfl) (by kernel_rfl) (by kernel_rfl) (fun _ _ _ h => h) (Or.inl ⟨by rfl, ?_⟩) (by assumption) ?_
  rotate_left
  · (intro w' hSw; (try dsimp only at hSw); go_simp; (try (with_reducible rfl)))
  simp only [Act.put, List.getElem_toArray, List.getElem_cons_succ, List.getElem_cons_zero, List.setIfInBounds_toArray, List.set_cons_succ, List.set_cons_zero]
  refine wpAnyH_take (i := 14) (v := ?_) rfl (by kernel_rfl) (by kernel_rfl) (by kernel_rfl) (fun _ _ _ h => h) (Or.inl ⟨by rfl, ?_⟩) (by assumption) ?_
  rotate_left
  · (intro w' hSw; (try dsimp only at hSw); go_simp; (try (with_reducible rfl)))
  simp only [Act.put, List.getElem_toArray, List.getElem_cons_succ, List.getElem_cons_zero, List.setIfInBounds_toArray, List.set_cons_succ, List.set_cons_zero]
  refine wpAnyH_ready (rs := [11]) (by kernel_rfl) (by simp) ?_
  refine AllReadyH.cons rfl (fun K hK => ?_) AllReadyH.nil
  go_simp
  (go_at_call 17; refine (bool_any _ _).mono ?_; rintro e w4 ⟨rfl, hb4⟩; (try go_simp))
  refine hK.out _ _ ?_ (fun hHeld => ?_)
  · (try dsimp only); exact MK.out _ (keep_below hHeld.2.2.2.2.2.2.2.2.2 hb4)
  clear hK K
  refine wpAnyH_ready (rs := [15]) (by kernel_rfl) (by simp) ?_
  refine AllReadyH.cons rfl (fun K hK => ?_) AllReadyH.nil
  go_simp
  (go_at_call 18; refine (rbool_any _ _).mono ?_; rintro e w4 ⟨rfl, hb4⟩; (try go_simp))
  refine hK.out _ _ ?_ (fun hHeld => ?_)
  · (try dsimp only); exact MK.out _ (keep_below hHeld.2.2.2.2.2.2.2.2.2 hb4)
  clear hK K
  refine wpAnyH_take (i := 16) (v := ?_) rfl (by kernel_rfl) (by kernel_rfl) (by kernel_rfl) (fun _ _ _ h => h) (Or.inl ⟨by rfl, ?_⟩) (by assumption) ?_
  rotate_left
  · (intro w' hSw; (try dsimp only at hSw); go_simp; (try (with_reducible rfl)))
  simp only [Act.put, List.getElem_toArray, List.getElem_cons_succ, List.getElem_cons_zero, List.setIfInBounds_toArray, List.set_cons_succ, List.set_cons_zero]
  refine wpAnyH_take (i := 17) (v := ?_) rfl (by kernel_rfl) (by kernel_rfl) (by kernel_rfl) (fun _ _ _ h => h) (Or.inl ⟨by rfl, ?_⟩) (by assumption) ?_
  rotate_left
  · (intro w' hSw; (try dsimp only at hSw); go_simp; (try (with_reducible rfl)))
  simp only [Act.put, List.getElem_toArray, List.getElem_cons_succ, List.getElem_cons_zero, List.setIfInBounds_toArray, List.set_cons_succ, List.set_cons_zero]
  refine wpAnyH_take (i := 18) (v := ?_) rfl (by kernel_rfl) (by kernel_rfl) (by kernel_rfl) (fun _ _ _ h => h) (Or.inl ⟨by rfl, ?_⟩) (by assumption) ?_
  rotate_left
  · (intro w' hSw; (try dsimp only at hSw); go_simp; (try (with_reducible rfl)))
  simp only [Act.put, List.getElem_toArray, List.getElem_cons_succ, List.getElem_cons_zero, List.setIfInBounds_toArray, List.set_cons_succ, List.set_cons_zero]
  refine wpAnyH_take (i := 19) (v := ?_) rfl (by kernel_rfl) (by kernel_rfl) (by kernel_rfl) (fun _ _ _ h => h) (Or.inl ⟨by rfl, ?_⟩) (by assumption) ?_
  rotate_left
  · (intro w' hSw; (try dsimp only at hSw); go_simp; (try (with_reducible rfl)))
  simp only [Act.put, List.getElem_toArray, List.getElem_cons_succ, List.getElem_cons_zero, List.setIfInBounds_toArray, List.set_cons_succ, List.set_cons_zero]
  refine wpAnyH_take (i := 20) (v := ?_) rfl (by kernel_rfl) (by kernel_rfl) (by kernel_rfl) (fun _ _ _ h => h) (Or.inl ⟨by rfl, ?_⟩) (by assumption) ?_
  rotate_left
  · (intro w' hSw; (try dsimp only at hSw); go_simp; (try (with_reducible rfl)))
  simp only [Act.put, List.getElem_toArray, List.getElem_cons_succ, List.getElem_cons_zero, List.setIfInBounds_toArray, List.set_cons_succ, List.set_cons_zero]
  refine wpAnyH_take (i := 22) (v := ?_) rfl (by kernel_rfl) (by kernel_rfl) (by kernel_rfl) (fun _ _ _ h => h) (Or.inl ⟨by rfl, ?_⟩) (by assumption) ?_
  rotate_left
  · (intro w' hSw; (try dsimp only at hSw); go_simp; (try (with_reducible rfl)))
  simp only [Act.put, List.getElem_toArray, List.getElem_cons_succ, List.getElem_cons_zero, List.setIfInBounds_toArray, List.set_cons_succ, List.set_cons_zero]
  refine wpAnyH_take (i := 23) (v := ?_) rfl (by kernel_rfl) (by kernel_rfl) (by kernel_rfl) (fun _ _ _ h => h) (Or.inl ⟨by rfl, ?_⟩) (by assumption) ?_
  rotate_left
  · (intro w' hSw; (try dsimp only at hSw); go_simp; (try (with_reducible rfl)))
  simp only [Act.put, List.getElem_toArray, List.getElem_cons_succ, List.getElem_cons_zero, List.setIfInBounds_toArray, List.set_cons_succ, List.set_cons_zero]
  refine wpAnyH_ready (rs := [21]) (by kernel_rfl) (by simp) ?_
  refine AllReadyH.cons rfl (fun K hK => ?_) AllReadyH.nil
  go_simp
  (go_at_call 19; refine (text_any _ _).mono ?_; rintro e w4 ⟨rfl, hb4⟩; (try go_simp))
  refine hK.out _ _ ?_ (fun hHeld => ?_)
  · (try dsimp only); exact MK.out _ (keep_below hHeld.2.2.2.2.2.2.2.2.2 hb4)
  clear hK K
  refine wpAnyH_ready (rs := [24]) (by kernel_rfl) (by simp) ?_
  refine AllReadyH.cons rfl (fun K hK => ?_) AllReadyH.nil
  go_simp
  (go_at_call 20; refine (rtext_any _ _).mono ?_; rintro e w4 ⟨rfl, hb4⟩; (try go_simp))
  refine hK.out _ _ ?_ (fun hHeld => ?_)
  · (try dsimp only); exact MK.out _ (keep_below hHeld.2.2.2.2.2.2.2.2.2 hb4)
  clear hK K
  refine wpAnyH_take (i := 25) (v := ?_) rfl (by kernel_rfl) (by kernel_rfl) (by kernel_rfl) (fun _ _ _ h => h) (Or.inl ⟨by rfl, ?_⟩) (by assumption) ?_
  rotate_left
  · (intro w' hSw; (try dsimp only at hSw); go_simp; (try (with_reducible rfl)))
  simp only [Act.put, List.getElem_toArray, List.getElem_cons_succ, List.getElem_cons_zero, List.setIfInBounds_toArray, List.set_cons_succ, List.set_cons_zero]
  refine wpAnyH_take (i := 26) (v := ?_) rfl (by kernel_rfl) (by kernel_rfl) (by kernel_rfl) (fun _ _ _ h => h) (Or.inl ⟨by rfl, ?_⟩) (by assumption) ?_
  rotate_left
  · (intro w' hSw; (try dsimp only at hSw); go_simp; (try (with_reducible rfl)))
  simp only [Act.put, List.getElem_toArray, List.getElem_cons_succ, List.getElem_cons_zero, List.setIfInBounds_toArray, List.set_cons_succ, List.set_cons_zero]
  refine wpAnyH_take (i := 27) (v := ?_) rfl (by kernel_rfl) (by kernel_rfl) (by kernel_rfl) (fun _ _ _ h => h) (Or.inl ⟨by rfl, ?_⟩) (by assumption) ?_
  rotate_left
  · (intro w' hSw; (try dsimp only at hSw); go_simp; (try (with_reducible rfl)))
  simp only [Act.put, List.getElem_toArray, List.getElem_cons_succ, List.getElem_cons_zero, List.setIfInBounds_toArray, List.set_cons_succ, List.set_cons_zero]
  refine wpAnyH_take (i := 28) (v := ?_) rfl (by kernel_rfl) (by kernel_rfl) (by kernel_rfl) (fun _ _ _ h => h) (Or.inl ⟨by rfl, ?_⟩) (by assumption) ?_
  rotate_left
  · (intro w' hSw; (try dsimp only at hSw); go_simp; (try (with_reducible rfl)))
  simp only [Act.put, List.getElem_toArray, List.getElem_cons_succ, List.getElem_cons_zero, List.setIfInBounds_toArray, List.set_cons_succ, List.set_cons_zero]
  refine wpAnyH_take (i := 29) (v := ?_) rfl (by kernel_rfl) (by kernel_rfl) (by kernel_rfl) (fun _ _ _ h => h) (Or.inl ⟨by rfl, ?_⟩) (by assumption) ?_
  rotate_left
  · (intro w' hSw; (try dsimp only at hSw); go_simp; (try (with_reducible rfl)))
  simp only [Act.put, List.getElem_toArray, List.getElem_cons_succ, List.getElem_cons_zero, List.setIfInBounds_toArray, List.set_cons_succ, List.set_cons_zero]
  refine wpAnyH_take (i := 31) (v := ?_) rfl (by kernel_rfl) (by kernel_rfl) (by kernel_rfl) (fun _ _ _ h => h) (Or.inl ⟨by rfl, ?_⟩) (by assumption) ?_
  rotate_left
  · (intro w' hSw; (try dsimp only at hSw); go_simp; (try (with_reducible rfl)))
  simp only [Act.put, List.getElem_toArray, List.getElem_cons_succ, List.getElem_cons_zero, List.setIfInBounds_toArray, List.set_cons_succ, List.set_cons_zero]
  refine wpAnyH_take (i := 32) (v := ?_) rfl (by kernel_rfl) (by kernel_rfl) (by kernel_rfl) (fun _ _ _ h => h) (Or.inl ⟨by rfl, ?_⟩) (by assumption) ?_
  rotate_left
  · (intro w' hSw; (try dsimp only at hSw); go_simp; (try (with_reducible rfl)))
  simp only [Act.put, List.getElem_toArray, List.getElem_cons_succ, List.getElem_cons_zero, List.setIfInBounds_toArray, List.set_cons_succ, List.set_cons_zero]
  refine wpAnyH_ready (rs := [30]) (by kernel_rfl) (by simp) ?_
  refine AllReadyH.cons rfl (fun K hK => ?_) AllReadyH.nil
  go_simp
  (go_at_call 21; refine (zero_any _ _).mono ?_; rintro e w4 ⟨rfl, hb4⟩; (try go_simp))
  refine hK.out _ _ ?_ (fun hHeld => ?_)
  · (try dsimp only); exact MK.out _ (keep_below hHeld.2.2.2.2.2.2.2.2.2 hb4)
  clear hK K
  refine wpAnyH_ready (rs := [33]) (by kernel_rfl) (by simp) ?_
  refine AllReadyH.cons rfl (fun K hK => ?_) AllReadyH.nil
  go_simp
  (go_at_call 22; refine (rzero_any _ _).mono ?_; rintro e w4 ⟨rfl, hb4⟩; (try go_simp))
  refine hK.out _ _ ?_ (fun hHeld => ?_)
  · (try dsimp only); exact MK.out _ (keep_below hHeld.2.2.2.2.2.2.2.2.2 hb4)
  clear hK K
  refine wpAnyH_take (i := 34) (v := ?_) rfl (by kernel_rfl) (by kernel_rfl) (by kernel_rfl) (fun _ _ _ h => h) (Or.inl ⟨by rfl, ?_⟩) (by assumption) ?_
  rotate_left
  · (intro w' hSw; (try dsimp only at hSw); go_simp; (try (with_reducible rfl)))
  simp only [Act.put, List.getElem_toArray, List.getElem_cons_succ, List.getElem_cons_zero, List.setIfInBounds_toArray, List.set_cons_succ, List.set_cons_zero]
  refine wpAnyH_take (i := 35) (v := ?_) rfl (by kernel_rfl) (by kernel_rfl) (by kernel_rfl) (fun _ _ _ h => h) (Or.inl ⟨by rfl, ?_⟩) (by assumption) ?_
  rotate_left
  · (intro w' hSw; (try dsimp only at hSw); go_simp; (try (with_reducible rfl)))
  simp only [Act.put, List.getElem_toArray, List.getElem_cons_succ, List.getElem_cons_zero, List.setIfInBounds_toArray, List.set_cons_succ, List.set_cons_zero]
  refine wpAnyH_take (i := 36) (v := ?_) rfl (by kernel_rfl) (by kernel_rfl) (by kernel_rfl) (fun _ _ _ h => h) (Or.inl ⟨by rfl, ?_⟩) (by assumption) ?_
  rotate_left
  · (intro w' hSw; (try dsimp only at hSw); go_simp; (try (with_reducible rfl)))
  simp only [Act.put, List.getElem_toArray, List.getElem_cons_succ, List.getElem_cons_zero, List.setIfInBounds_toArray, List.set_cons_succ, List.set_cons_zero]
  refine wpAnyH_done (by kernel_rfl) ?_ _
  have hb : Below W11.heap.size W11 w4 := (by assumption : w4.cell? ⟨P, 0, none⟩ = some (.int .i64 ta) ∧ w4.cell? ⟨P, 1, none⟩ = some (.int .i64 na) ∧ w4.cell? ⟨P, 2, none⟩ = some (.string xa) ∧ w4.cell? ⟨w5.heap.size, 0, none⟩ = some (.int .i64 rt) ∧ w4.cell? ⟨w5.heap.size, 1, none⟩ = some (.int .i64 rn) ∧ w4.cell? ⟨w5.heap.size, 2, none⟩ = some (.string rs) ∧ w4.cell? ⟨x11.heap.size, 0, none⟩ = some (.int .i64 rt) ∧ w4.cell? ⟨x11.heap.size, 1, none⟩ = some (.int .i64 rn) ∧ w4.cell? ⟨x11.heap.size, 2, none⟩ = some (.string rs) ∧ Below W11.heap.size W11 w4).2.2.2.2.2.2.2.2.2
  replace d10 := keep_cell hb y1 d10
  replace d11 := keep_cell hb y1 d11
  replace d12 := keep_cell hb y1 d12
  replace y1 := Nat.lt_of_lt_of_le y1 hb.size
  replace d20 := keep_cell hb y2 d20
  replace d21 := keep_cell hb y2 d21
  replace d22 := keep_cell hb y2 d22
  replace y2 := Nat.lt_of_lt_of_le y2 hb.size
  replace d30 := keep_cell hb y3 d30
  replace d31 := keep_cell hb y3 d31
  replace d32 := keep_cell hb y3 d32
  replace y3 := Nat.lt_of_lt_of_le y3 hb.size
  replace d40 := keep_cell hb y4 d40
  replace d41 := keep_cell hb y4 d41
  replace d42 := keep_cell hb y4 d42
  replace y4 := Nat.lt_of_lt_of_le y4 hb.size
  replace B := keep_below B hb
  clear hb
  clear MK
  obtain ⟨V5, hV5⟩ : ∃ V : World, V = w4 := ⟨_, rfl⟩
  subst hV5
  go_upto_region 8 with fail
  have HTV : Hid (TabW V5) := HT.out.below B HT.out.2
  have mk : ∀ w' : World, Below V5.heap.size V5 w' → (w'.cell? ⟨P, 0, none⟩ = some (.int .i64 ta) ∧ w'.cell? ⟨P, 1, none⟩ = some (.int .i64 na) ∧ w'.cell? ⟨P, 2, none⟩ = some (.string xa) ∧ w'.cell? ⟨w5.heap.size, 0, none⟩ = some (.int .i64 rt) ∧ w'.cell? ⟨w5.heap.size, 1, none⟩ = some (.int .i64 rn) ∧ w'.cell? ⟨w5.heap.size, 2, none⟩ = some (.string rs) ∧ w'.cell? ⟨x11.heap.size, 0, none⟩ = some (.int .i64 rt) ∧ w'.cell? ⟨x11.heap.size, 1, none⟩ = some (.int .i64 rn) ∧ w'.cell? ⟨x11.heap.size, 2, none⟩ = some (.string rs) ∧ Below V5.heap.size V5 w') := fun w' h => ⟨keep_cell h y1 d10, keep_cell h y1 d11, keep_cell h y1 d12, keep_cell h y3 d30, keep_cell h y3 d31, keep_cell h y3 d32, keep_cell h y4 d40, keep_cell h y4 d41, keep_cell h y4 d42, h⟩
  have MK := Lib.hid mk
  clear mk
  refine wp_region_held_drew (S := fun w' => w'.cell? ⟨P, 0, none⟩ = some (.int .i64 ta) ∧ w'.cell? ⟨P, 1, none⟩ = some (.int .i64 na) ∧ w'.cell? ⟨P, 2, none⟩ = some (.string xa) ∧ w'.cell? ⟨w5.heap.size, 0, none⟩ = some (.int .i64 rt) ∧ w'.cell? ⟨w5.heap.size, 1, none⟩ = some (.int .i64 rn) ∧ w'.cell? ⟨w5.heap.size, 2, none⟩ = some (.string rs) ∧ w'.cell? ⟨x11.heap.size, 0, none⟩ = some (.int .i64 rt) ∧ w'.cell? ⟨x11.heap.size, 1, none⟩ = some (.int .i64 rn) ∧ w'.cell? ⟨x11.heap.size, 2, none⟩ = some (.string rs) ∧ Below V5.heap.size V5 w') (by kernel_rfl) (MK.out _ (Below.drew (Below.refl _ _))) (fun hHeld => ?_)
  refine wpAnyH_take (i := 0) (v := ?_) rfl (by kernel_rfl) (by kernel_rfl) (by kernel_rfl) (fun _ _ _ h => h) (Or.inl ⟨by rfl, ?_⟩) (by assumption) ?_
  rotate_left
  · (intro w' hSw; (try dsimp only at hSw); go_simp; (try (with_reducible rfl)))
  simp only [Act.put, List.getElem_toArray, List.getElem_cons_zero, List.setIfInBounds_toArray, List.set_cons_succ, List.set_cons_zero]
  refine wpAnyH_take (i := 1) (v := ?_) rfl (by kernel_rfl) (by kernel_rfl) (by kernel_rfl) (fun _ _ _ h => h) (Or.inl ⟨by rfl, ?_⟩) (by assumption) ?_
  rotate_left
  · (intro w' hSw; (try dsimp only at hSw); go_simp; (try (with_reducible rfl)))
  simp only [Act.put, List.getElem_toArray, List.getElem_cons_succ, List.getElem_cons_zero, List.setIfInBounds_toArray, List.set_cons_succ, List.set_cons_zero]
  refine wpAnyH_take (i := 2) (v := ?_) rfl (by kernel_rfl) (by kernel_rfl) (by kernel_rfl) (fun _ _ _ h => h) (Or.inl ⟨by rfl, ?_⟩) (by assumption) ?_
  rotate_left
  · (intro w' hSw; (try dsimp only at hSw); go_simp; (try (with_reducible rfl)))
  simp only [Act.put, List.getElem_toArray, List.getElem_cons_succ, List.getElem_cons_zero, List.setIfInBounds_toArray, List.set_cons_succ, List.set_cons_zero]
  refine wpAnyH_take (i := 3) (v := ?_) rfl (by kernel_rfl) (by kernel_rfl) (by kernel_rfl) (fun _ _ _ h => h) (Or.inl ⟨by rfl, ?_⟩) (by assumption) ?_
  rotate_left
  · (intro w' hSw; (try dsimp only at hSw); go_simp; (try (with_reducible rfl)))
  simp only [Act.put, List.getElem_toArray, List.getElem_cons_succ, List.getElem_cons_zero, List.setIfInBounds_toArray, List.set_cons_succ, List.set_cons_zero]
  refine wpAnyH_take (i := 4) (v := ?_) rfl (by kernel_rfl) (by kernel_rfl) (by kernel_rfl) (fun _ _ _ h => h) (Or.inl ⟨by rfl, ?_⟩) (by assumption) ?_
  rotate_left
  · (intro w' hSw; (try dsimp only at hSw); go_simp; (try (with_reducible rfl)))
  simp only [Act.put, List.getElem_toArray, List.getElem_cons_succ, List.getElem_cons_zero, List.setIfInBounds_toArray, List.set_cons_succ, List.set_cons_zero]
  refine wpAnyH_take (i := 5) (v := ?_) rfl (by kernel_rfl) (by kernel_rfl) (by kernel_rfl) (fun _ _ _ h => h) (Or.inl ⟨by rfl, ?_⟩) (by assumption) ?_
  rotate_left
  · (intro w' hSw; (try dsimp only at hSw); go_simp; (try (with_reducible rfl)))
  simp only [Act.put, List.getElem_toArray, List.getElem_cons_succ, List.getElem_cons_zero, List.setIfInBounds_toArray, List.set_cons_succ, List.set_cons_zero]
  refine wpAnyH_take (i := 6) (v := ?_) rfl (by kernel_rfl) (by kernel_rfl) (by kernel_rfl) (fun _ _ _ h => h) (Or.inl ⟨by rfl, ?_⟩) (by assumption) ?_
  rotate_left
  · (intro w' hSw; (try dsimp only at hSw); go_simp; (try (with_reducible rfl)))
  simp only [Act.put, List.getElem_toArray, List.getElem_cons_succ, List.getElem_cons_zero, List.setIfInBounds_toArray, List.set_cons_succ, List.set_cons_zero]
  refine wpAnyH_take (i := 7) (v := ?_) rfl (by kernel_rfl) (by kernel_rfl) (by kernel_rfl) (fun _ _ _ h => h) (Or.inl ⟨by rfl, ?_⟩) (by assumption) ?_
  rotate_left
  · (intro w' hSw; (try dsimp only at hSw); go_simp; (try (with_reducible rfl)))
  simp only [Act.put, List.getElem_toArray, List.getElem_cons_succ, List.getElem_cons_zero, List.setIfInBounds_toArray, List.set_cons_succ, List.set_cons_zero]
  refine wpAnyH_take (i := 8) (v := ?_) rfl (by kernel_rfl) (by kernel_rfl) (by kernel_rfl) (fun _ _ _ h => h) (Or.inl ⟨by rfl, ?_⟩) (by assumption) ?_
  rotate_left
  · (intro w' hSw; (try dsimp only at hSw); go_simp; (try (with_reducible rfl)))
  simp only [Act.put, List.getElem_toArray, List.getElem_cons_succ, List.getElem_cons_zero, List.setIfInBounds_toArray, List.set_cons_succ, List.set_cons_zero]
  refine wpAnyH_take (i := 9) (v := ?_) rfl (by kernel_rfl) (by kernel_rfl) (by kernel_rfl) (fun _ _ _ h => h) (Or.inl ⟨by rfl, ?_⟩) (by assumption) ?_
  rotate_left
  · (intro w' hSw; (try dsimp only at hSw); go_simp; (try (with_reducible rfl)))
  simp only [Act.put, List.getElem_toArray, List.getElem_cons_succ, List.getElem_cons_zero, List.setIfInBounds_toArray, List.set_cons_succ, List.set_cons_zero]
  refine wpAnyH_take (i := 10) (v := ?_) rfl (by kernel_rfl) (by kernel_rfl) (by kernel_rfl) (fun _ _ _ h => h) (Or.inl ⟨by rfl, ?_⟩) (by assumption) ?_
  rotate_left
  · (intro w' hSw; (try dsimp only at hSw); go_simp; (try (with_reducible rfl)))
  simp only [Act.put, List.getElem_toArray, List.getElem_cons_succ, List.getElem_cons_zero, List.setIfInBounds_toArray, List.set_cons_succ, List.set_cons_zero]
  refine wpAnyH_take (i := 11) (v := ?_) rfl (by kernel_rfl) (by kernel_rfl) (by kernel_rfl) (fun _ _ _ h => h) (Or.inl ⟨by rfl, ?_⟩) (by assumption) ?_
  rotate_left
  · (intro w' hSw; (try dsimp only at hSw); go_simp; (try (with_reducible rfl)))
  simp only [Act.put, List.getElem_toArray, List.getElem_cons_succ, List.getElem_cons_zero, List.setIfInBounds_toArray, List.set_cons_succ, List.set_cons_zero]
  refine wpAnyH_take (i := 12) (v := ?_) rfl (by kernel_rfl) (by kernel_rfl) (by kernel_rfl) (fun _ _ _ h => h) (Or.inl ⟨by rfl, ?_⟩) (by assumption) ?_
  rotate_left
  · (intro w' hSw; (try dsimp only at hSw); go_simp; (try (with_reducible rfl)))
  simp only [Act.put, List.getElem_toArray, List.getElem_cons_succ, List.getElem_cons_zero, List.setIfInBounds_toArray, List.set_cons_succ, List.set_cons_zero]
  refine wpAnyH_take (i := 13) (v := ?_) rfl (by kernel_rfl) (by kernel_rfl) (by kernel_rfl) (fun _ _ _ h => h) (Or.inl ⟨by rfl, ?_⟩) (by assumption) ?_
  rotate_left
  · (intro w' hSw; (try dsimp only at hSw); go_simp; (try (with_reducible rfl)))
  simp only [Act.put, List.getElem_toArray, List.getElem_cons_succ, List.getElem_cons_zero, List.setIfInBounds_toArray, List.set_cons_succ, List.set_cons_zero]
  refine wpAnyH_take (i := 14) (v := ?_) rfl (by kernel_rfl) (by kernel_rfl) (by kernel_rfl) (fun _ _ _ h => h) (Or.inl ⟨by rfl, ?_⟩) (by assumption) ?_
  rotate_left
  · (intro w' hSw; (try dsimp only at hSw); go_simp; (try (with_reducible rfl)))
  simp only [Act.put, List.getElem_toArray, List.getElem_cons_succ, List.getElem_cons_zero, List.setIfInBounds_toArray, List.set_cons_succ, List.set_cons_zero]
  refine wpAnyH_take (i := 15) (v := ?_) rfl (by kernel_rfl) (by kernel_rfl) (by kernel_rfl) (fun _ _ _ h => h) (Or.inl ⟨by rfl, ?_⟩) (by assumption) ?_
  rotate_left
  · (intro w' hSw; (try dsimp only at hSw); go_simp; (try (with_reducible rfl)))
  simp only [Act.put, List.getElem_toArray, List.getElem_cons_succ, List.getElem_cons_zero, List.setIfInBounds_toArray, List.set_cons_succ, List.set_cons_zero]
  refine wpAnyH_take (i := 16) (v := ?_) rfl (by kernel_rfl) (by kernel_rfl) (by kernel_rfl) (fun _ _ _ h => h) (Or.inl ⟨by rfl, ?_⟩) (by assumption) ?_
  rotate_left
  · (intro w' hSw; (try dsimp only at hSw); go_simp; (try (with_reducible rfl)))
  simp only [Act.put, List.getElem_toArray, List.getElem_cons_succ, List.getElem_cons_zero, List.setIfInBounds_toArray, List.set_cons_succ, List.set_cons_zero]
  refine wpAnyH_take (i := 18) (v := ?_) rfl (by kernel_rfl) (by kernel_rfl) (by kernel_rfl) (fun _ _ _ h => h) (Or.inl ⟨by rfl, ?_⟩) (by assumption) ?_
  rotate_left
  · (intro w' hSw; (try dsimp only at hSw); go_simp; (try (with_reducible rfl)))
  simp only [Act.put, List.getElem_toArray, List.getElem_cons_succ, List.getElem_cons_zero, List.setIfInBounds_toArray, List.set_cons_succ, List.set_cons_zero]
  refine wpAnyH_take (i := 19) (v := ?_) rfl (by kernel_rfl) (by kernel_rfl) (by kernel_rfl) (fun _ _ _ h => h) (Or.inl ⟨by rfl, ?_⟩) (by assumption) ?_
  rotate_left
  · (intro w' hSw; (try dsimp only at hSw); go_simp; (try (with_reducible rfl)))
  simp only [Act.put, List.getElem_toArray, List.getElem_cons_succ, List.getElem_cons_zero, List.setIfInBounds_toArray, List.set_cons_succ, List.set_cons_zero]
  refine wpAnyH_ready (rs := [17]) (by kernel_rfl) (by simp) ?_
  refine AllReadyH.cons rfl (fun K hK => ?_) AllReadyH.nil
  go_simp
  (go_at_call 23; refine (GC'.out _).mono ?_; rintro e w4 ⟨rfl, hb4⟩; (try go_simp))
  refine hK.out _ _ ?_ (fun hHeld => ?_)
  · (try dsimp only); exact MK.out _ (keep_below hHeld.2.2.2.2.2.2.2.2.2 hb4)
  clear hK K
  refine wpAnyH_ready (rs := [20]) (by kernel_rfl) (by simp) ?_
  refine AllReadyH.cons rfl (fun K hK => ?_) AllReadyH.nil
  go_simp
  (go_at_call 24; refine (GR'.out _).mono ?_; rintro e w4 ⟨rfl, hb4⟩; (try go_simp))
  refine hK.out _ _ ?_ (fun hHeld => ?_)
  · (try dsimp only); exact MK.out _ (keep_below hHeld.2.2.2.2.2.2.2.2.2 hb4)
  clear hK K
  refine wpAnyH_take (i := 21) (v := ?_) rfl (by kernel_rfl) (by kernel_rfl) (by kernel_rfl) (fun _ _ _ h => h) (Or.inl ⟨by rfl, ?_⟩) (by assumption) ?_
  rotate_left
  · (intro w' hSw; (try dsimp only at hSw); go_simp; (try (with_reducible rfl)))
  simp only [Act.put, List.getElem_toArray, List.getElem_cons_succ, List.getElem_cons_zero, List.setIfInBounds_toArray, List.set_cons_succ, List.set_cons_zero]
  refine wpAnyH_take (i := 22) (v := ?_) rfl (by kernel_rfl) (by kernel_rfl) (by kernel_rfl) (fun _ _ _ h => h) (Or.inl ⟨by rfl, ?_⟩) (by assumption) ?_
  rotate_left
  · (intro w' hSw; (try dsimp only at hSw); go_simp; (try (with_reducible rfl)))
  simp only [Act.put, List.getElem_toArray, List.getElem_cons_succ, List.getElem_cons_zero, List.setIfInBounds_toArray, List.set_cons_succ, List.set_cons_zero]
  refine wpAnyH_take (i := 23) (v := ?_) rfl (by kernel_rfl) (by kernel_rfl) (by kernel_rfl) (fun _ _ _ h => h) (Or.inl ⟨by rfl, ?_⟩) (by assumption) ?_
  rotate_left
  · (intro w' hSw; (try dsimp only at hSw); go_simp; (try (with_reducible rfl)))
  simp only [Act.put, List.getElem_toArray, List.getElem_cons_succ, List.getElem_cons_zero, List.setIfInBounds_toArray, List.set_cons_succ, List.set_cons_zero]
  refine wpAnyH_take (i := 24) (v := ?_) rfl (by kernel_rfl) (by kernel_rfl) (by kernel_rfl) (fun _ _ _ h => h) (Or.inl ⟨by rfl, ?_⟩) (by assumption) ?_
  rotate_left
  · (intro w' hSw; (try dsimp only at hSw); go_simp; (try (with_reducible rfl)))
  simp only [Act.put, List.getElem_toArray, List.getElem_cons_succ, List.getElem_cons_zero, List.setIfInBounds_toArray, List.set_cons_succ, List.set_cons_zero]
  refine wpAnyH_take (i := 26) (v := ?_) rfl (by kernel_rfl) (by kernel_rfl) (by kernel_rfl) (fun _ _ _ h => h) (Or.inl ⟨by rfl, ?_⟩) (by assumption) ?_
  rotate_left
  · (intro w' hSw; (try dsimp only at hSw); go_simp; (try (with_reducible rfl)))
  simp only [Act.put, List.getElem_toArray, List.getElem_cons_succ, List.getElem_cons_zero, List.setIfInBounds_toArray, List.set_cons_succ, List.set_cons_zero]
  refine wpAnyH_ready (rs := [25]) (by kernel_rfl) (by simp) ?_
  refine AllReadyH.cons rfl (fun K hK => ?_) AllReadyH.nil
  go_simp
  (go_at_call 25; refine (MC'.out _).mono ?_; rintro e w4 ⟨rfl, hb4⟩; (try go_simp))
  refine hK.out _ _ ?_ (fun hHeld => ?_)
  · (try dsimp only); exact MK.out _ (keep_below hHeld.2.2.2.2.2.2.2.2.2 hb4)
  clear hK K
  refine wpAnyH_ready (rs := [27]) (by kernel_rfl) (by simp) ?_
  refine AllReadyH.cons rfl (fun K hK => ?_) AllReadyH.nil
  go_simp
  (go_at_call 26; refine (MD'.out _).mono ?_; rintro e w4 ⟨rfl, hb4⟩; (try go_simp))
  refine hK.out _ _ ?_ (fun hHeld => ?_)
  · (try dsimp only); exact MK.out _ (keep_below hHeld.2.2.2.2.2.2.2.2.2 hb4)
  clear hK K
  refine wpAnyH_take (i := 28) (v := ?_) rfl (by kernel_rfl) (by kernel_rfl) (by kernel_rfl) (fun _ _ _ h => h) (Or.inl ⟨by rfl, ?_⟩) (by assumption) ?_
  rotate_left
  · (intro w' hSw; (try dsimp only at hSw); go_simp; (try (with_reducible rfl)))
  simp only [Act.put, List.getElem_toArray, List.getElem_cons_succ, List.getElem_cons_zero, List.setIfInBounds_toArray, List.set_cons_succ, List.set_cons_zero]
  refine wpAnyH_take (i := 29) (v := ?_) rfl (by kernel_rfl) (by kernel_rfl) (by kernel_rfl) (fun _ _ _ h => h) (Or.inl ⟨by rfl, ?_⟩) (by assumption) ?_
  rotate_left
  · (intro w' hSw; (try dsimp only at hSw); go_simp; (try (with_reducible rfl)))
  simp only [Act.put, List.getElem_toArray, List.getElem_cons_succ, List.getElem_cons_zero, List.setIfInBounds_toArray, List.set_cons_succ, List.set_cons_zero]
  refine wpAnyH_take (i := 30) (v := ?_) rfl (by kernel_rfl) (by kernel_rfl) (by kernel_rfl) (fun _ _ _ h => h) (Or.inl ⟨by rfl, ?_⟩) (by assumption) ?_
  rotate_left
  · (intro w' hSw; (try dsimp only at hSw); go_simp; (try (with_reducible rfl)))
  simp only [Act.put, List.getElem_toArray, List.getElem_cons_succ, List.getElem_cons_zero, List.setIfInBounds_toArray, List.set_cons_succ, List.set_cons_zero]
  refine wpAnyH_take (i := 31) (v := ?_) rfl (by kernel_rfl) (by kernel_rfl) (by kernel_rfl) (fun _ _ _ h => h) (Or.inl ⟨by rfl, ?_⟩) (by assumption) ?_
  rotate_left
  · (intro w' hSw; (try dsimp only at hSw); go_simp; (try (with_reducible rfl)))
  simp only [Act.put, List.getElem_toArray, List.getElem_cons_succ, List.getElem_cons_zero, List.setIfInBounds_toArray, List.set_cons_succ, List.set_cons_zero]
  refine wpAnyH_take (i := 33) (v := ?_) rfl (by kernel_rfl) (by kernel_rfl) (by kernel_rfl) (fun _ _ _ h => h) (Or.inl ⟨by rfl, ?_⟩) (by assumption) ?_
  rotate_left
  · (intro w' hSw; (try dsimp only at hSw); go_simp; (try (with_reducible rfl)))
  simp only [Act.put, List.getElem_toArray, List.getElem_cons_succ, List.getElem_cons_zero, List.setIfInBounds_toArray, List.set_cons_succ, List.set_cons_zero]
  refine wpAnyH_ready (rs := [32]) (by kernel_rfl) (by simp) ?_
  refine AllReadyH.cons rfl (fun K hK => ?_) AllReadyH.nil
  go_simp
  (go_at_call 27; refine (WC'.out _ (HTV.out.below hHeld.2.2.2.2.2.2.2.2.2 HTV.out.2)).mono ?_; rintro e w4 ⟨rfl, hb4⟩; (try go_simp))
  refine hK.out _ _ ?_ (fun hHeld => ?_)
  · (try dsimp only); exact MK.out _ (keep_below hHeld.2.2.2.2.2.2.2.2.2 hb4)
  clear hK K
  refine wpAnyH_ready (rs := [34]) (by kernel_rfl) (by simp) ?_
  refine AllReadyH.cons rfl (fun K hK => ?_) AllReadyH.nil
  go_simp
  (go_at_call 28; refine (WR'.out _ (HTV.out.below hHeld.2.2.2.2.2.2.2.2.2 HTV.out.2)).mono ?_; rintro e w4 ⟨rfl, hb4⟩; (try go_simp))
  refine hK.out _ _ ?_ (fun hHeld => ?_)
  · (try dsimp only); exact MK.out _ (keep_below hHeld.2.2.2.2.2.2.2.2.2 hb4)
  clear hK K
  refine wpAnyH_take (i := 35) (v := ?_) rfl (by kernel_rfl) (by kernel_rfl) (by kernel_rfl) (fun _ _ _ h => h) (Or.inl ⟨by rfl, ?_⟩) (by assumption) ?_
  rotate_left
  · (intro w' hSw; (try dsimp only at hSw); go_simp; (try (with_reducible rfl)))
  simp only [Act.put, List.getElem_toArray, List.getElem_cons_succ, List.getElem_cons_zero, List.setIfInBounds_toArray, List.set_cons_succ, List.set_cons_zero]
  refine wpAnyH_take (i := 36) (v := ?_) rfl (by kernel_rfl) (by kernel_rfl) (by kernel_rfl) (fun _ _ _ h => h) (Or.inl ⟨by rfl, ?_⟩) (by assumption) ?_
  rotate_left
  · (intro w' hSw; (try dsimp only at hSw); go_simp; (try (with_reducible rfl)))
  simp only [Act.put, List.getElem_toArray, List.getElem_cons_succ, List.getElem_cons_zero, List.setIfInBounds_toArray, List.set_cons_succ, List.set_cons_zero]
  refine wpAnyH_take (i := 37) (v := ?_) rfl (by kernel_rfl) (by kernel_rfl) (by kernel_rfl) (fun _ _ _ h => h) (Or.inl ⟨by rfl, ?_⟩) (by assumption) ?_
  rotate_left
  · (intro w' hSw; (try dsimp only at hSw); go_simp; (try (with_reducible rfl)))
  simp only [Act.put, List.getElem_toArray, List.getElem_cons_succ, List.getElem_cons_zero, List.setIfInBounds_toArray, List.set_cons_succ, List.set_cons_zero]
  refine wpAnyH_take (i := 38) (v := ?_) rfl (by kernel_rfl) (by kernel_rfl) (by kernel_rfl) (fun _ _ _ h => h) (Or.inl ⟨by rfl, ?_⟩) (by assumption) ?_
  rotate_left
  · (intro w' hSw; (try dsimp only at hSw); go_simp; (try (with_reducible rfl)))
  simp only [Act.put, List.getElem_toArray, List.getElem_cons_succ, List.getElem_cons_zero, List.setIfInBounds_toArray, List.set_cons_succ, List.set_cons_zero]
  refine wpAnyH_take (i := 40) (v := ?_) rfl (by kernel_rfl) (by kernel_rfl) (by kernel_rfl) (fun _ _ _ h => h) (Or.inl ⟨by rfl, ?_⟩) (by assumption) ?_
  rotate_left
  · (intro w' hSw; (try dsimp only at hSw); go_simp; (try (with_reducible rfl)))
  simp only [Act.put, List.getElem_toArray, List.getElem_cons_succ, List.getElem_cons_zero, List.setIfInBounds_toArray, List.set_cons_succ, List.set_cons_zero]
  refine wpAnyH_ready (rs := [39]) (by kernel_rfl) (by simp) ?_
  refine AllReadyH.cons rfl (fun K hK => ?_) AllReadyH.nil
  go_simp
  (go_at_call 29; refine (QC'.out _ (HTV.out.below hHeld.2.2.2.2.2.2.2.2.2 HTV.out.2)).mono ?_; rintro e w4 ⟨rfl, hb4⟩; (try go_simp))
  refine hK.out _ _ ?_ (fun hHeld => ?_)
  · (try dsimp only); exact MK.out _ (keep_below hHeld.2.2.2.2.2.2.2.2.2 hb4)
  clear hK K
  refine wpAnyH_ready (rs := [41]) (by kernel_rfl) (by simp) ?_
  refine AllReadyH.cons rfl (fun K hK => ?_) AllReadyH.nil
  go_simp
  (go_at_call 30; refine (QR'.out _ (HTV.out.below hHeld.2.2.2.2.2.2.2.2.2 HTV.out.2)).mono ?_; rintro e w4 ⟨rfl, hb4⟩; (try go_simp))
  refine hK.out _ _ ?_ (fun hHeld => ?_)
  · (try dsimp only); exact MK.out _ (keep_below hHeld.2.2.2.2.2.2.2.2.2 hb4)
  clear hK K
  refine wpAnyH_take (i := 42) (v := ?_) rfl (by kernel_rfl) (by kernel_rfl) (by kernel_rfl) (fun _ _ _ h => h) (Or.inl ⟨by rfl, ?_⟩) (by assumption) ?_
  rotate_left
  · (intro w' hSw; (try dsimp only at hSw); go_simp; (try (with_reducible rfl)))
  simp only [Act.put, List.getElem_toArray, List.getElem_cons_succ, List.getElem_cons_zero, List.setIfInBounds_toArray, List.set_cons_succ, List.set_cons_zero]
  refine wpAnyH_take (i := 43) (v := ?_) rfl (by kernel_rfl) (by kernel_rfl) (by kernel_rfl) (fun _ _ _ h => h) (Or.inl ⟨by rfl, ?_⟩) (by assumption) ?_
  rotate_left
  · (intro w' hSw; (try dsimp only at hSw); go_simp; (try (with_reducible rfl)))
  simp only [Act.put, List.getElem_toArray, List.getElem_cons_succ, List.getElem_cons_zero, List.setIfInBounds_toArray, List.set_cons_succ, List.set_cons_zero]
  refine wpAnyH_take (i := 44) (v := ?_) rfl (by kernel_rfl) (by kernel_rfl) (by kernel_rfl) (fun _ _ _ h => h) (Or.inl ⟨by rfl, ?_⟩) (by assumption) ?_
  rotate_left
  · (intro w' hSw; (try dsimp only at hSw); go_simp; (try (with_reducible rfl)))
  simp only [Act.put, List.getElem_toArray, List.getElem_cons_succ, List.getElem_cons_zero, List.setIfInBounds_toArray, List.set_cons_succ, List.set_cons_zero]
  refine wpAnyH_done (by kernel_rfl) ?_ _
  have hb : Below V5.heap.size V5 w4 := (by assumption : w4.cell? ⟨P, 0, none⟩ = some (.int .i64 ta) ∧ w4.cell? ⟨P, 1, none⟩ = some (.int .i64 na) ∧ w4.cell? ⟨P, 2, none⟩ = some (.string xa) ∧ w4.cell? ⟨w5.heap.size, 0, none⟩ = some (.int .i64 rt) ∧ w4.cell? ⟨w5.heap.size, 1, none⟩ = some (.int .i64 rn) ∧ w4.cell? ⟨w5.heap.size, 2, none⟩ = some (.string rs) ∧ w4.cell? ⟨x11.heap.size, 0, none⟩ = some (.int .i64 rt) ∧ w4.cell? ⟨x11.heap.size, 1, none⟩ = some (.int .i64 rn) ∧ w4.cell? ⟨x11.heap.size, 2, none⟩ = some (.string rs) ∧ Below V5.heap.size V5 w4).2.2.2.2.2.2.2.2.2
  replace d10 := keep_cell hb y1 d10
  replace d11 := keep_cell hb y1 d11
  replace d12 := keep_cell hb y1 d12
  replace y1 := Nat.lt_of_lt_of_le y1 hb.size
  replace d20 := keep_cell hb y2 d20
  replace d21 := keep_cell hb y2 d21
  replace d22 := keep_cell hb y2 d22
  replace y2 := Nat.lt_of_lt_of_le y2 hb.size
  replace d30 := keep_cell hb y3 d30
  replace d31 := keep_cell hb y3 d31
  replace d32 := keep_cell hb y3 d32
  replace y3 := Nat.lt_of_lt_of_le y3 hb.size
  replace d40 := keep_cell hb y4 d40
  replace d41 := keep_cell hb y4 d41
  replace d42 := keep_cell hb y4 d42
  replace y4 := Nat.lt_of_lt_of_le y4 hb.size
  replace B := keep_below B hb
  clear hb
  clear MK
  obtain ⟨V6, hV5⟩ : ∃ V : World, V = w4 := ⟨_, rfl⟩
  subst hV5
  have HB := Lib.hid B
  go_wp2
  go_ret
  exact ⟨rfl, HB.out⟩
end Go.Proofs.YtpighdioomjnmaaDoor.textsof
