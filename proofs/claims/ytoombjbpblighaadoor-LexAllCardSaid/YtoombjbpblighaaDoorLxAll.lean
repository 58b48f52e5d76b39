/-
  Layer 1: the walk of LexAll. Written by an AI agent.
-/
import Derived.Test.YtoombjbpblighaaDoorRfI
import Derived.Test.YtoombjbpblighaaDoorLxGw
import Derived.Test.YtoombjbpblighaaDoorLxYa
namespace Go.Proofs.YtoombjbpblighaaDoor
open Go.RowKit Go.Shelf
set_option linter.unusedVariables false
set_option linter.unusedSimpArgs false

/-- What a source is told as. -/
def resL (l : List UInt8) : List Tok × Nat × Nat := if 600 < l.length then ([], 0, 4) else match (lexL l 0).2 with
  | none => ((lexL l 0).1, 0, 0)
  | some (q, er) => ([], q, er)
theorem allE_res {l : List UInt8} {w w' : World} {e : Ending} (h : AllE l w e w') : (∃ A c, e = .returned (.tuple #[.slice A (resL l).1.length c, .int .i64 (((resL l).2.1 : Nat) : Int), .int .i64 (((resL l).2.2 : Nat) : Int)]) ∧ RdT w' A (resL l).1) ∧ Keeps (fun _ => False) w w' := by
  obtain ⟨h1, hk⟩ := h
  refine ⟨?_, hk⟩
  by_cases hb : 600 < l.length
  · rw [if_pos hb] at h1
    have e1 : resL l = ([], 0, 4) := by unfold resL; rw [if_pos hb]
    rw [e1]
    exact ⟨none, 0, h1, fun h => by cases h⟩
  · rw [if_neg hb] at h1
    cases hl : (lexL l 0).2 with
    | none =>
      rw [hl] at h1
      have e1 : resL l = ((lexL l 0).1, 0, 0) := by unfold resL; rw [if_neg hb, hl]
      rw [e1]
      obtain ⟨A, c, e2, o, _⟩ := h1
      exact ⟨A, c, e2, own_rdT o rfl⟩
    | some qe =>
      obtain ⟨q, er⟩ := qe
      rw [hl] at h1
      have e1 : resL l = ([], q, er) := by unfold resL; rw [if_neg hb, hl]
      rw [e1]
      exact ⟨none, 0, h1, fun h => by cases h⟩

theorem res_le (l : List UInt8) : (resL l).1.length ≤ l.length + 1 := by
  have h := tokens_le l 0
  unfold resL
  split
  · exact Nat.zero_le _
  · split
    · exact h
    · exact Nat.zero_le _

set_option maxRecDepth 100000 in
set_option maxHeartbeats 4000000 in
theorem rsame_any (A A' : Option Addr) (c c' : Nat) (ts : List Tok) (h9 : ts.length ≤ 1000) (w : World) (h1 : RdT w A ts) (h2 : RdT w A' ts) : Calls Tryd.prog 19 #[.slice A ts.length c, .slice A' ts.length c'] w fun e w' => e = .returned (.bool true) ∧ Keeps (fun _ => False) w w' := by
  have H1 := Lib.hid h1
  have H2 := Lib.hid h2
  obtain ⟨N, hN⟩ : ∃ N, N = ts.length := ⟨_, rfl⟩
  rw [← hN] at h9 ⊢
  have HN := Lib.hid hN
  have g33 := guard33
  clear h1 h2 hN
  go_enter Tryd.func19, Tryd.ntmps19
  go_wp2_with fail
  go_loopw [5] (fun s5 wr => ∃ (i n : Nat), i ≤ N ∧ s5 = .int .i64 i ∧ wr = w.drewN n) (fun s5 _ => N + 1 - (intOf s5).toNat)
  case atStart => exact ⟨0, 0, Nat.zero_le _, rfl, rfl⟩
  case round =>
    obtain ⟨i, n, hi, rfl, hw⟩ := hrel
    have kw : Keeps (fun _ => False) w wr := by rw [hw]; exact drew_keeps w n
    have HW := Lib.hid hw
    clear hw
    by_cases hiN : i < N
    · have hI : (i : Int) < (N : Int) := by omega
      have hi0 : (0 : Int) ≤ (i : Int) := by omega
      have hdi : decide ((i : Int) < (N : Int)) = true := decide_eq_true hI
      obtain ⟨ba, oa, rfl, ha⟩ := H1.out.cellsAt (i := i) (by rw [← HN.out]; exact hiN)
      obtain ⟨bb, ob, rfl, hb⟩ := H2.out.cellsAt (i := i) (by rw [← HN.out]; exact hiN)
      obtain ⟨tk, htk⟩ : ∃ t : Tok, t = ts.getD i default := ⟨_, rfl⟩
      rw [← htk] at ha hb
      obtain ⟨tk, tx, tp⟩ := tk
      obtain ⟨T, hT⟩ : ∃ T : ByteArray, T = ofL tx := ⟨_, rfl⟩
      dsimp only at ha hb
      rw [← hT] at ha hb
      have a0 : wr.cell? ⟨ba, oa + i * 3, none⟩ = some (.int .i64 (tk : Int)) := (ha wr kw).1
      have a1 : wr.cell? ⟨ba, oa + i * 3 + 1, none⟩ = some (.string T) := (ha wr kw).2.1
      have a2 : wr.cell? ⟨ba, oa + i * 3 + 2, none⟩ = some (.int .i64 (tp : Int)) := (ha wr kw).2.2
      have b0 : wr.cell? ⟨bb, ob + i * 3, none⟩ = some (.int .i64 (tk : Int)) := (hb wr kw).1
      have b1 : wr.cell? ⟨bb, ob + i * 3 + 1, none⟩ = some (.string T) := (hb wr kw).2.1
      have b2 : wr.cell? ⟨bb, ob + i * 3 + 2, none⟩ = some (.int .i64 (tp : Int)) := (hb wr kw).2.2
      have qn : ∀ w : World, (binOp .neq 33 (.agg #[.int .i64 (tk : Int), .string T, .int .i64 (tp : Int)]) (.agg #[.int .i64 (tk : Int), .string T, .int .i64 (tp : Int)])).run Tryd.prog w = .ok (.bool false) w := fun w => by rw [neq33]; simp
      clear ha hb htk hT kw
      go_wp2_with fail
      go_quiet (fail)
      go_wp2
      go_roundw
      case rel => exact ⟨i + 1, n + nq, by omega, by go_num, by rw [HW.out, World.drewN_drewN]⟩
      case measure => simp [intOf]; omega
    · have hdi : decide ((i : Int) < (N : Int)) = false := decide_eq_false (by omega)
      have KW := Lib.hid kw
      clear kw
      go_wp2
      go_ret
      exact ⟨rfl, KW.out⟩

set_option maxRecDepth 100000 in
set_option maxHeartbeats 8000000 in
theorem all_walk (s0 : ByteArray) (a : Int) (ha0 : -9223372036854775808 ≤ a) (ha1 : a < 9223372036854775808) (w : World) (he : ErrW w) :
    Calls Tryd.prog 3 #[.string s0, .int .i64 a] w fun e w' => e = .returned (.bool true) ∧ Keeps (fun _ => False) w w' := by
  have SC := Lib.hid (shown_any w he)
  have HC := Lib.hid (fun w => short_any s0 w)
  have HE := Lib.hid he
  clear he
  go_enter Tryd.func3, Tryd.ntmps3
  go_wp2_with fail
  refine SC.out.mono ?_
  rintro e w1 ⟨rfl, k1⟩
  have HE1 := Lib.hid (HE.out.keep k1)
  have K1 := Lib.hid k1
  have HC1 := Lib.hid (HC.out w1)
  clear k1 SC HE HC
  go_wp2_with fail
  refine HC1.out.mono ?_
  rintro e w2 ⟨⟨s, hs, rfl⟩, hw⟩
  obtain rfl : w1 = w2 := hw.symm
  clear hw HC1
  obtain ⟨l, hl⟩ : ∃ l : List UInt8, l = s.data.toList := ⟨_, rfl⟩
  have AC : Hid (Calls Tryd.prog 17 #[.string s] w1 fun e w' => (∃ A c, e = .returned (.tuple #[.slice A (resL l).1.length c, .int .i64 (((resL l).2.1 : Nat) : Int), .int .i64 (((resL l).2.2 : Nat) : Int)]) ∧ RdT w' A (resL l).1) ∧ Keeps (fun _ => False) w1 w') := by
    rw [hl]
    exact Lib.hid ((all_any s (by omega) w1 HE1.out).mono fun e w' h => allE_res h)
  have RC : Hid (∀ w, Calls Tryd.prog 18 #[.string s] w fun e w' => (∃ A c, e = .returned (.tuple #[.slice A (resL l).1.length c, .int .i64 (((resL l).2.1 : Nat) : Int), .int .i64 (((resL l).2.2 : Nat) : Int)]) ∧ RdT w' A (resL l).1) ∧ Keeps (fun _ => False) w w') := by
    rw [hl]
    exact Lib.hid fun w => (rall_any s (by omega) w).mono fun e w' h => allE_res h
  have L1 : Hid (∀ w, Calls Tryd.prog 20 #[.string s, .int .i64 a] w fun e w' => e = .returned (.int .i64 (lineL l a : Nat)) ∧ w' = w) := by
    rw [hl]
    exact Lib.hid fun w => line_any s (by omega) a w
  have L2 : Hid (∀ w, Calls Tryd.prog 21 #[.string s, .int .i64 a] w fun e w' => e = .returned (.int .i64 (lineL l a : Nat)) ∧ w' = w) := by
    rw [hl]
    exact Lib.hid fun w => rline_any s (by omega) a w
  have W1 : Hid (∀ w, Calls Tryd.prog 22 #[.string s] w fun e w' => e = .returned (.bool (isWord l)) ∧ w' = w) := by
    rw [hl]
    exact Lib.hid fun w => wordq_any s w
  have W2 : Hid (∀ w, Calls Tryd.prog 23 #[.string s] w fun e w' => e = .returned (.bool (isWord l)) ∧ Keeps (fun _ => False) w w') := by
    rw [hl]
    exact Lib.hid fun w => rword_any s w
  have h9 := res_le l
  rw [hl, len_size, ← hl] at h9
  obtain ⟨R, hR⟩ : ∃ R, R = resL l := ⟨_, rfl⟩
  obtain ⟨N, hN⟩ : ∃ N, N = lineL l a := ⟨_, rfl⟩
  obtain ⟨b, hb⟩ : ∃ b, b = isWord l := ⟨_, rfl⟩
  rw [← hR] at AC RC h9
  rw [← hN] at L1 L2
  rw [← hb] at W1 W2
  obtain ⟨ts, q, er⟩ := R
  dsimp only at AC RC h9
  have qb : (b == b) = true := by simp
  clear hl hR hN hb
  go_wp2_with fail
  refine AC.out.mono ?_
  rintro e w3 ⟨⟨A, c, rfl, hr⟩, k3⟩
  have HR3 := Lib.hid hr
  have K3 := Lib.hid (K1.out.trans k3 (fun _ _ h => h))
  have RC3 := Lib.hid (RC.out w3)
  clear hr k3 AC RC
  go_wp2_with fail
  refine RC3.out.mono ?_
  rintro e w4 ⟨⟨A', c', rfl, hr⟩, k4⟩
  have SA := Lib.hid (rsame_any A A' c c' ts (by omega) w4 (HR3.out.keep k4) hr)
  have K4 := Lib.hid (K3.out.trans k4 (fun _ _ h => h))
  clear hr k4 RC3
  go_wp2_with fail
  refine SA.out.mono ?_
  rintro e w5 ⟨rfl, k5⟩
  have K5 := Lib.hid (K4.out.trans k5 (fun _ _ h => h))
  have L15 := Lib.hid (L1.out w5)
  have L25 := Lib.hid (L2.out w5)
  have W15 := Lib.hid (W1.out w5)
  have W25 := Lib.hid (W2.out w5)
  clear k5 SA L1 L2 W1 W2
  go_wp2_with fail
  refine L15.out.mono ?_
  rintro e w6 ⟨rfl, hw⟩
  obtain rfl : w5 = w6 := hw.symm
  clear hw L15
  go_wp2_with fail
  refine L25.out.mono ?_
  rintro e w6 ⟨rfl, hw⟩
  obtain rfl : w5 = w6 := hw.symm
  clear hw L25
  go_wp2_with fail
  refine W15.out.mono ?_
  rintro e w6 ⟨rfl, hw⟩
  obtain rfl : w5 = w6 := hw.symm
  clear hw W15
  go_wp2_with fail
  refine W25.out.mono ?_
  rintro e w6 ⟨rfl, k6⟩
  have K6 := Lib.hid (K5.out.trans k6 (fun _ _ h => h))
  clear k6 W25
  go_wp2
  go_ret
  exact ⟨rfl, K6.out⟩

end Go.Proofs.YtoombjbpblighaaDoor
