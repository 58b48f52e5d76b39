/-
  Layer 8: the contracts of short and of Same. Written by an AI agent.
-/
import Derived.Test.YtoombjbpblighaaDoorCoX
import Derived.Test.YtoombjbpblighaaDoorCoN
import Derived.Deep.QuietTactic
import Derived.BigQuiet
namespace Go.Proofs.YtoombjbpblighaaDoor
open Go Go.RowKit Go.Shelf
set_option linter.unusedVariables false
set_option linter.unusedSimpArgs false

theorem short8_any (A : Option Addr) (n c : Nat) (hnc : n ≤ c) (hc : c ≤ 9223372036854775807) (w : World) : Calls Tryd.prog 27 #[.slice A n c] w fun e w' => e = .returned (.slice A (min n 3000) c) ∧ w = w' := by
  obtain ⟨m, hm⟩ : ∃ m, m = min n 3000 := ⟨_, rfl⟩
  rw [← hm]
  have HM := Lib.hid hm
  clear hm
  by_cases h : 3000 < n
  · have hI : (3000 : Int) < (n : Int) := by omega
    have hd : decide ((3000 : Int) < (n : Int)) = true := decide_eq_true hI
    have h2 : (3000 : Int) ≤ (c : Int) := by omega
    have HE : Hid (m = 3000) := Lib.hid (by rw [HM.out]; omega)
    clear h
    go_enter Tryd.func27, Tryd.ntmps27
    go_wp2
    go_ret
    rw [HE.out]
    exact ⟨rfl, rfl⟩
  · have hI : ¬ (3000 : Int) < (n : Int) := by omega
    have hd : decide ((3000 : Int) < (n : Int)) = false := decide_eq_false hI
    have HE : Hid (m = n) := Lib.hid (by rw [HM.out]; omega)
    clear h
    go_enter Tryd.func27, Tryd.ntmps27
    go_wp2
    go_ret
    rw [HE.out]
    exact ⟨rfl, rfl⟩

theorem neq52_same (a b c : Int) (s : ByteArray) (w : World) : (binOp .neq 52 (.agg #[.int .i64 a, .int .i64 b, .int .i64 c, .string s]) (.agg #[.int .i64 a, .int .i64 b, .int .i64 c, .string s])).run Tryd.prog w = .ok (.bool false) w := by
  have h := run_neq_struct (P := Tryd.prog) w 52 #[.int .i64 a, .int .i64 b, .int .i64 c, .string s] #[.int .i64 a, .int .i64 b, .int .i64 c, .string s]
  rw [eq52] at h
  simpa using h

set_option maxRecDepth 100000 in
set_option maxHeartbeats 8000000 in
theorem same8_any (I I' : Option Addr) (c c' : Nat) (L : List Ins) (E E' : Option Addr) (d d' : Nat) (Z : List Int) (hL : L.length ≤ 1000000) (hZ : Z.length ≤ 1000000) (w : World) (hI : RdI w I L) (hI' : RdI w I' L) (hE : RdZ w E Z) (hE' : RdZ w E' Z) :
    Calls Tryd.prog 32 #[.agg #[.slice I L.length c, .slice E Z.length d], .agg #[.slice I' L.length c', .slice E' Z.length d']] w fun e w' => e = .returned (.bool true) ∧ Keeps (fun _ => False) w w' := by
  obtain ⟨n, hn⟩ : ∃ n, n = L.length := ⟨_, rfl⟩
  obtain ⟨m, hm⟩ : ∃ m, m = Z.length := ⟨_, rfl⟩
  rw [← hn] at hL ⊢
  rw [← hm] at hZ ⊢
  have HN := Lib.hid hn
  have HM := Lib.hid hm
  have HI := Lib.hid hI
  have HI' := Lib.hid hI'
  have HE := Lib.hid hE
  have HE' := Lib.hid hE'
  have g := guard52
  clear hn hm hI hI' hE hE'
  obtain ⟨B, hB⟩ : ∃ B, B = w.heap.size := ⟨_, rfl⟩
  have HB := Lib.hid hB
  clear hB
  go_enter Tryd.func32, Tryd.ntmps32
  go_upto_region 1 with fail
  generalize hwA : (w.alloc _).alloc _ = wA
  rw [← HB.out]
  have kA : Keeps (fun _ => False) w wA := by rw [← hwA]; exact ((Keeps.refl _ _).alloc _).alloc _
  have p0 : wA.cell? ⟨B, 0, none⟩ = some (.slice I n c) := by rw [← hwA, HB.out, cell_under _ _ _ (by simp)]; simp
  have p1 : wA.cell? ⟨B, 1, none⟩ = some (.slice E m d) := by rw [← hwA, HB.out, cell_under _ _ _ (by simp)]; simp
  have q0 : wA.cell? ⟨B + 1, 0, none⟩ = some (.slice I' n c') := by rw [← hwA, HB.out]; exact (two_new _ _ _ 41 (by simp)).1
  have q1 : wA.cell? ⟨B + 1, 1, none⟩ = some (.slice E' m d') := by rw [← hwA, HB.out]; exact (two_new _ _ _ 41 (by simp)).2.1
  have KA := Lib.hid kA
  have hB1 := cell_ltk q0
  have CP : Hid (∀ wq, Keeps (fun _ => False) wA wq → wq.cell? ⟨B, 0, none⟩ = some (.slice I n c) ∧ wq.cell? ⟨B, 1, none⟩ = some (.slice E m d) ∧ wq.cell? ⟨B + 1, 0, none⟩ = some (.slice I' n c') ∧ wq.cell? ⟨B + 1, 1, none⟩ = some (.slice E' m d')) := Lib.hid (fun wq k => ⟨(k.cell (by omega) (fun h => h)).trans p0, (k.cell (by omega) (fun h => h)).trans p1, (k.cell (by omega) (fun h => h)).trans q0, (k.cell (by omega) (fun h => h)).trans q1⟩)
  clear hwA kA hB1
  go_wp2_with fail
  clear p0 p1 q0 q1
  go_loopw [5] (fun s5 wr => ∃ i : Nat, i ≤ n ∧ s5 = .int .i64 i ∧ Keeps (fun _ => False) wA wr) (fun s5 _ => n - (intOf s5).toNat)
  case atStart => exact ⟨0, Nat.zero_le _, rfl, Keeps.refl _ _⟩
  case round =>
    obtain ⟨i, hin, rfl, kr⟩ := hrel
    have KR := Lib.hid kr
    obtain ⟨r0, r1, r2, r3⟩ := CP.out wr kr
    clear kr
    by_cases h1 : i < n
    · have h1I : (i : Int) < (n : Int) := by omega
      have h1d : decide ((i : Int) < (n : Int)) = true := decide_eq_true h1I
      have hi0 : (0 : Int) ≤ (i : Int) := by omega
      obtain ⟨bi, oi, rfl, hbi, hci⟩ := HI.out.cellsAt (i := i) (by rw [← HN.out]; exact h1)
      obtain ⟨bj, oj, rfl, hbj, hcj⟩ := HI'.out.cellsAt (i := i) (by rw [← HN.out]; exact h1)
      have kk : Keeps (fun _ => False) w wr := KA.out.trans KR.out (fun _ _ h => h)
      obtain ⟨x, hx⟩ : ∃ x : Ins, x = L.getD i default := ⟨_, rfl⟩
      rw [← hx] at hci hcj
      obtain ⟨d0, d1, d2, d3⟩ := hci wr (kk.block bi hbi (fun h => h))
      obtain ⟨e0, e1, e2, e3⟩ := hcj wr (kk.block bj hbj (fun h => h))
      have hq : ∀ w, (binOp .neq 52 (.agg #[.int .i64 x.o, .int .i64 x.a, .int .i64 x.b, .string x.s]) (.agg #[.int .i64 x.o, .int .i64 x.a, .int .i64 x.b, .string x.s])).run Tryd.prog w = .ok (.bool false) w := fun w => neq52_same _ _ _ _ w
      clear hci hcj hx kk
      go_wp2
      go_quiet (fail)
      go_wp2
      go_roundw
      case rel => exact ⟨i + 1, by omega, by go_num, KR.out.trans (drew_keeps _ _) (fun _ _ h => h)⟩
      case measure => simp [intOf]; omega
    · obtain rfl : i = n := by omega
      have h1d : decide ((i : Int) < (i : Int)) = false := decide_eq_false (by omega)
      go_wp2_with fail
      clear r0 r1 r2 r3
      obtain ⟨wy, rfl⟩ : ∃ wy, wy = wr := ⟨_, rfl⟩
      go_loopw [6] (fun s6 wr => ∃ j : Nat, j ≤ m ∧ s6 = .int .i64 j ∧ Keeps (fun _ => False) wA wr) (fun s6 _ => m - (intOf s6).toNat)
      case atStart => exact ⟨0, Nat.zero_le _, rfl, KR.out⟩
      case round =>
        obtain ⟨j, hjm, rfl, kr⟩ := hrel
        have KR2 := Lib.hid kr
        obtain ⟨r0, r1, r2, r3⟩ := CP.out wr kr
        clear kr
        by_cases h2 : j < m
        · have h2I : (j : Int) < (m : Int) := by omega
          have h2d : decide ((j : Int) < (m : Int)) = true := decide_eq_true h2I
          have hj0 : (0 : Int) ≤ (j : Int) := by omega
          have kk : Keeps (fun _ => False) w wr := KA.out.trans KR2.out (fun _ _ h => h)
          obtain ⟨bi, oi, rfl, hci⟩ := (HE.out.keep kk) (by rw [← HM.out]; omega)
          obtain ⟨bj, oj, rfl, hcj⟩ := (HE'.out.keep kk) (by rw [← HM.out]; omega)
          have d0 := hci j (by rw [← HM.out]; exact h2)
          have e0 := hcj j (by rw [← HM.out]; exact h2)
          obtain ⟨x, hx⟩ : ∃ x : Int, x = Z.getD j 0 := ⟨_, rfl⟩
          rw [← hx] at d0 e0
          clear hci hcj hx kk
          go_wp2
          go_quiet (fail)
          go_wp2
          go_roundw
          case rel => exact ⟨j + 1, by omega, by go_num, KR2.out.trans (drew_keeps _ _) (fun _ _ h => h)⟩
          case measure => simp [intOf]; omega
        · obtain rfl : j = m := by omega
          have h2d : decide ((j : Int) < (j : Int)) = false := decide_eq_false (by omega)
          have kk : Keeps (fun _ => False) w wr := KA.out.trans KR2.out (fun _ _ h => h)
          have KK := Lib.hid kk
          clear kk
          go_wp2
          go_ret
          exact ⟨rfl, KK.out⟩
end Go.Proofs.YtoombjbpblighaaDoor
