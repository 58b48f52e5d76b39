/-
  Layer 2: two trees that are the same. Written by an AI agent.
-/
import Derived.Test.YtgelggdgbmldiaaDoorPbD
import Derived.Deep.LoopGhost
import Derived.Laws.StructEq
namespace Go.Proofs.YtgelggdgbmldiaaDoor
open Go Go.RowKit Go.Shelf
set_option linter.unusedVariables false
set_option linter.unusedSimpArgs false

theorem RdI.up {w w' : World} {a : Option Addr} {l : List Int} (h : RdI w a l) (k : Keeps (fun _ => False) w w') : RdI w' a l := h.keep k (fun _ _ _ _ h => h)
theorem RdG.up {w w' : World} {a : Option Addr} {l : List Value} (h : RdG w a l) (k : Keeps (fun _ => False) w w') : RdG w' a l := h.keep k (fun _ _ _ _ h => h)

set_option maxRecDepth 100000 in
set_option maxHeartbeats 16000000 in
theorem ints_any (a b : Option Addr) (c d n : Nat) (l : List Int) (hn : n = l.length) (hl : n ≤ 1000000) (w : World) (ha : RdI w a l) (hb : RdI w b l) : Calls Tryd.prog 27 #[.slice a n c, .slice b n d] w fun e w' => e = .returned (.bool true) ∧ Keeps (fun _ => False) w w' := by
  have HA := Lib.hid ha
  have HB := Lib.hid hb
  have HN := Lib.hid hn
  clear ha hb hn
  go_enter Tryd.func27, Tryd.ntmps27
  go_wp2_with fail
  go_loopg [5] (n + 1) (fun k s5 wr => ∃ i : Nat, s5 = .int .i64 i ∧ i + k = n + 1 ∧ i ≤ n ∧ Keeps (fun _ => False) w wr)
  case atStart => exact ⟨0, rfl, by omega, by omega, Keeps.refl _ _⟩
  case round =>
    obtain ⟨i, rfl, hik, hle, kr⟩ := hrel
    have KR := Lib.hid kr
    have HIK := Lib.hid hik
    by_cases hin : i < n
    · have hinI : (i : Int) < (n : Int) := by omega
      have hd : decide ((i : Int) < (n : Int)) = true := decide_eq_true hinI
      have hi0 : (0 : Int) ≤ (i : Int) := by omega
      have hw := IntWalk.i64_in ((i : Int) + 1) (by omega)
      obtain ⟨b1, o1, rfl, h1⟩ := HA.out (by rw [← HN.out]; omega)
      obtain ⟨b2, o2, rfl, h2⟩ := HB.out (by rw [← HN.out]; omega)
      have c1 := (kr.cell (cell_ltk (h1 i (by rw [← HN.out]; exact hin))) (fun h => h)).trans (h1 i (by rw [← HN.out]; exact hin))
      have c2 := (kr.cell (cell_ltk (h2 i (by rw [← HN.out]; exact hin))) (fun h => h)).trans (h2 i (by rw [← HN.out]; exact hin))
      generalize l.getD i 0 = z at c1 c2
      have HIN := Lib.hid hin
      clear h1 h2 kr hik hin
      go_wp2_with fail
      go_quiet (fail)
      go_wp2_with fail
      go_roundg (gk - 1)
      case measure => go_light; have h1 := HIK.out; have h2 := HIN.out; omega
      case rel => exact ⟨i + 1, by go_num, by have h1 := HIK.out; have h2 := HIN.out; go_light; omega, by have h2 := HIN.out; go_light; omega, KR.out.trans (drew_keeps _ _) (fun _ _ h => h)⟩
    · obtain rfl : i = n := by omega
      have hinI : ¬ (i : Int) < (i : Int) := by omega
      have hd : decide ((i : Int) < (i : Int)) = false := decide_eq_false hinI
      clear hin hik kr
      go_wp2_with fail
      go_ret
      exact ⟨rfl, KR.out⟩

theorem eq_param (a b : Int) (s t : ByteArray) (w : World) : (Op.equalIn 10000 59 (.agg #[.string s, .int .i64 a]) (.agg #[.string t, .int .i64 b])).run Tryd.prog w = .ok (s.toList == t.toList && a == b) w := by
  have hS : Tryd.prog.underlying 59 = some (.struct (Tryd.prog.fieldsOf 59)) := by kernel_rfl
  have hp : Tryd.prog.stoodInHeld 59 = false := by kernel_rfl
  rw [show (10000 : Nat) = 9999 + 1 from rfl, run_equalIn_agg w 9999 59 _ _ hS hp]
  simp only [Program.fieldsOf, Tryd.underlying59]
  go_simp
  cases h1 : (a == b) <;> cases h3 : (s.toList == t.toList) <;> simp_all
theorem guard_param : Tryd.prog.eqGuardType Tryd.prog.depth 59 = false := by kernel_rfl
theorem neq_param (a b : Int) (s t : ByteArray) (w : World) : (binOp .neq 59 (.agg #[.string s, .int .i64 a]) (.agg #[.string t, .int .i64 b])).run Tryd.prog w = .ok (.bool (!(s.toList == t.toList && a == b))) w := by
  have h := run_neq_struct (P := Tryd.prog) w 59 #[.string s, .int .i64 a] #[.string t, .int .i64 b]
  rw [eq_param] at h
  exact h

end Go.Proofs.YtgelggdgbmldiaaDoor
